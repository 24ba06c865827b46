/- The reference's Step of stage 13. No statement of the seat is proved here. -/
import Derived.Test.YtcbmpcnanknncaaDoorMoLeaf
import Derived.Test.YtcbmpcnanknncaaDoorMoRef
namespace Go.Proofs.YtcbmpcnanknncaaDoor
open Go.RowKit

set_option maxHeartbeats 8000000 in
theorem refMoStep_any (F a b c fl : Int) (lv : Bool) (f2 : Int) (f3 : Bool) (k : Int) (w : World) :
    Calls Tryd.prog 12 #[.int .i64 F, .agg #[.int .i64 a, .int .i64 b, .int .i64 c], .agg #[.int .i64 fl, .bool lv, .int .i64 f2, .bool f3], .int .i64 k] w fun ee w' => ee = .returned (.tuple #[(Mo.stepF F ⟨a, b, c⟩ fl lv k).1.agg, .int .i64 (Mo.stepF F ⟨a, b, c⟩ fl lv k).2.1, .bool (Mo.stepF F ⟨a, b, c⟩ fl lv k).2.2]) ∧ Below w.heap.size w w' := by
  have FI := Lib.hid (fun wx => refMoState_any F a b c wx)
  cases hB : Mo.isB F ⟨a, b, c⟩
  · rw [hB] at FI
    rw [show Mo.stepF F ⟨a, b, c⟩ fl lv k = (Mo.zero, 0, false) from if_pos (by rw [hB]; rfl)]
    clear hB
    have HB0 := Lib.hid (bxs3 w (.cells #[.int .i64 a, .int .i64 b, .int .i64 c] 23) (.cells #[.int .i64 fl, .bool lv, .int .i64 f2, .bool f3] 25) (.cells #[.int .i64 0, .int .i64 0, .int .i64 0] 23))
    go_enter Tryd.func12, Tryd.ntmps12
    go_wp2_with fail
    refine (FI.out _).mono ?_
    rintro e w1 ⟨rfl, hb1⟩
    have HB1 := Lib.hid (HB0.out.next hb1)
    clear hb1 HB0
    have c0_0 : w1.cell? ⟨w.heap.size, 0, none⟩ = some (.int .i64 a) := cell_of_row _ _ _ _ _ (0, 0) HB1.out.r0
    have c0_1 : w1.cell? ⟨w.heap.size, 1, none⟩ = some (.int .i64 b) := cell_of_row _ _ _ _ _ (0, 0) HB1.out.r0
    have c0_2 : w1.cell? ⟨w.heap.size, 2, none⟩ = some (.int .i64 c) := cell_of_row _ _ _ _ _ (0, 0) HB1.out.r0
    have c1_0 : w1.cell? ⟨w.heap.size + 1, 0, none⟩ = some (.int .i64 fl) := cell_of_row _ _ _ _ _ (0, 0) HB1.out.r1
    have c1_1 : w1.cell? ⟨w.heap.size + 1, 1, none⟩ = some (.bool lv) := cell_of_row _ _ _ _ _ (0, 0) HB1.out.r1
    go_wp2_with (with_reducible show wpList _ _ _ (Oper.mk _ (.store 23 _ _) _ _ _ _ :: _) _ _; refine Hid.out ?_)
    refine Lib.hid ?_
    refine wpList_put rfl 23 _ _ rfl (w.heap.size + 2) #[.int .i64 0, .int .i64 0, .int .i64 0] _ 23 rfl rfl HB1.out.r2 (by kernel_rfl) rfl (by kernel_rfl) ?_
    intro w2 hr2 hg2
    have HB2 : Hid (Bx w [(w.heap.size, .cells #[.int .i64 a, .int .i64 b, .int .i64 c] 23 (0, 0)), (w.heap.size + 1, .cells #[.int .i64 fl, .bool lv, .int .i64 f2, .bool f3] 25 (0, 0)), (w.heap.size + 2, .cells #[.int .i64 0, .int .i64 0, .int .i64 0] 23 (0, 0))] w2) := Lib.hid (HB1.out.put (by omega) hg2.out hr2.out (by simp only [List.mem_cons, List.not_mem_nil, or_false]; rintro p (rfl | rfl | rfl) <;> simp <;> omega))
    clear c0_0 c0_1 c0_2 c1_0 c1_1 hr2 hg2 HB1
    go_wp2_with fail
    exact bodyPost_ret (results_row_tmp2 Tryd.results12 _ _ _ _ _ (0, 0) _ rfl HB2.out.r2 Tryd.underlying23 rfl (by kernel_rfl)) rfl (⟨rfl, HB2.out.below⟩)
  · have hr := Mo.isB_range hB
    rw [hB] at FI
    have FF := Lib.hid (fun wx => refFloor_any F fl wx)
    cases hfl : Mo.isF F fl
    · rw [hfl] at FF
      rw [show Mo.stepF F ⟨a, b, c⟩ fl lv k = (Mo.zero, 0, false) from if_pos (by rw [hB, hfl]; rfl)]
      clear hB hfl hr
      have HB0 := Lib.hid (bxs3 w (.cells #[.int .i64 a, .int .i64 b, .int .i64 c] 23) (.cells #[.int .i64 fl, .bool lv, .int .i64 f2, .bool f3] 25) (.cells #[.int .i64 0, .int .i64 0, .int .i64 0] 23))
      go_enter Tryd.func12, Tryd.ntmps12
      go_wp2_with fail
      refine (FI.out _).mono ?_
      rintro e w1 ⟨rfl, hb1⟩
      have HB1 := Lib.hid (HB0.out.next hb1)
      clear hb1 HB0
      have c0_0 : w1.cell? ⟨w.heap.size, 0, none⟩ = some (.int .i64 a) := cell_of_row _ _ _ _ _ (0, 0) HB1.out.r0
      have c0_1 : w1.cell? ⟨w.heap.size, 1, none⟩ = some (.int .i64 b) := cell_of_row _ _ _ _ _ (0, 0) HB1.out.r0
      have c0_2 : w1.cell? ⟨w.heap.size, 2, none⟩ = some (.int .i64 c) := cell_of_row _ _ _ _ _ (0, 0) HB1.out.r0
      have c1_0 : w1.cell? ⟨w.heap.size + 1, 0, none⟩ = some (.int .i64 fl) := cell_of_row _ _ _ _ _ (0, 0) HB1.out.r1
      have c1_1 : w1.cell? ⟨w.heap.size + 1, 1, none⟩ = some (.bool lv) := cell_of_row _ _ _ _ _ (0, 0) HB1.out.r1
      go_wp2_with fail
      refine (FF.out _).mono ?_
      rintro e w2 ⟨rfl, hb2⟩
      have HB2 := Lib.hid (HB1.out.next hb2)
      clear c0_0 c0_1 c0_2 c1_0 c1_1 hb2 HB1
      go_wp2_with (with_reducible show wpList _ _ _ (Oper.mk _ (.store 23 _ _) _ _ _ _ :: _) _ _; refine Hid.out ?_)
      refine Lib.hid ?_
      refine wpList_put rfl 23 _ _ rfl (w.heap.size + 2) #[.int .i64 0, .int .i64 0, .int .i64 0] _ 23 rfl rfl HB2.out.r2 (by kernel_rfl) rfl (by kernel_rfl) ?_
      intro w3 hr3 hg3
      have HB3 : Hid (Bx w [(w.heap.size, .cells #[.int .i64 a, .int .i64 b, .int .i64 c] 23 (0, 0)), (w.heap.size + 1, .cells #[.int .i64 fl, .bool lv, .int .i64 f2, .bool f3] 25 (0, 0)), (w.heap.size + 2, .cells #[.int .i64 0, .int .i64 0, .int .i64 0] 23 (0, 0))] w3) := Lib.hid (HB2.out.put (by omega) hg3.out hr3.out (by simp only [List.mem_cons, List.not_mem_nil, or_false]; rintro p (rfl | rfl | rfl) <;> simp <;> omega))
      clear hr3 hg3 HB2
      go_wp2_with fail
      exact bodyPost_ret (results_row_tmp2 Tryd.results12 _ _ _ _ _ (0, 0) _ rfl HB3.out.r2 Tryd.underlying23 rfl (by kernel_rfl)) rfl (⟨rfl, HB3.out.below⟩)
    · rw [hfl] at FF
      have hst : Mo.stepF F ⟨a, b, c⟩ fl lv k = (if a ≠ 0 then (if lv = true ∧ fl = Mo.tgt ⟨a, b, c⟩ then (Mo.zero, 0, true) else (Mo.later ⟨a, b, c⟩, a, false)) else if lv = false then (Mo.later ⟨a, b, c⟩, 0, false) else if k ≠ 0 ∧ Mo.isB F ⟨k, 0, fl⟩ = true then (⟨k, 0, fl⟩, k, false) else (Mo.zero, 0, false)) := by
        unfold Mo.stepF
        rw [hB, hfl]
        rfl
      rw [hst]
      clear hst
      obtain ⟨hF, hb, hac⟩ := hr
      have FL := Lib.hid (fun wx => refLater_any a b c wx)
      clear hB hfl
      by_cases h0 : a = 0
      · subst h0
        obtain rfl : c = 0 := by rcases hac with h | h <;> omega
        rw [if_neg (by simp)]
        clear hac
        cases lv
        · rw [if_pos rfl]
          have hl1 : (Mo.later ⟨0, b, 0⟩).c = 0 := by unfold Mo.later; split <;> rfl
          generalize Mo.later ⟨0, b, 0⟩ = l at *
          obtain ⟨l1, l2, l3⟩ := l
          simp only at hl1
          subst hl1
          simp only [Mo.agg] at FL
          clear hF hb
          have HB0 := Lib.hid (bxs3 w (.cells #[.int .i64 0, .int .i64 b, .int .i64 0] 23) (.cells #[.int .i64 fl, .bool false, .int .i64 f2, .bool f3] 25) (.cells #[.int .i64 0, .int .i64 0, .int .i64 0] 23))
          go_enter Tryd.func12, Tryd.ntmps12
          go_wp2_with fail
          refine (FI.out _).mono ?_
          rintro e w1 ⟨rfl, hb1⟩
          have HB1 := Lib.hid (HB0.out.next hb1)
          clear hb1 HB0
          have c0_0 : w1.cell? ⟨w.heap.size, 0, none⟩ = some (.int .i64 0) := cell_of_row _ _ _ _ _ (0, 0) HB1.out.r0
          have c0_1 : w1.cell? ⟨w.heap.size, 1, none⟩ = some (.int .i64 b) := cell_of_row _ _ _ _ _ (0, 0) HB1.out.r0
          have c0_2 : w1.cell? ⟨w.heap.size, 2, none⟩ = some (.int .i64 0) := cell_of_row _ _ _ _ _ (0, 0) HB1.out.r0
          have c1_0 : w1.cell? ⟨w.heap.size + 1, 0, none⟩ = some (.int .i64 fl) := cell_of_row _ _ _ _ _ (0, 0) HB1.out.r1
          have c1_1 : w1.cell? ⟨w.heap.size + 1, 1, none⟩ = some (.bool false) := cell_of_row _ _ _ _ _ (0, 0) HB1.out.r1
          go_wp2_with fail
          refine (FF.out _).mono ?_
          rintro e w2 ⟨rfl, hb2⟩
          have HB2 := Lib.hid (HB1.out.next hb2)
          clear c0_0 c0_1 c0_2 c1_0 c1_1 hb2 HB1
          have c0_0 : w2.cell? ⟨w.heap.size, 0, none⟩ = some (.int .i64 0) := cell_of_row _ _ _ _ _ (0, 0) HB2.out.r0
          have c0_1 : w2.cell? ⟨w.heap.size, 1, none⟩ = some (.int .i64 b) := cell_of_row _ _ _ _ _ (0, 0) HB2.out.r0
          have c0_2 : w2.cell? ⟨w.heap.size, 2, none⟩ = some (.int .i64 0) := cell_of_row _ _ _ _ _ (0, 0) HB2.out.r0
          have c1_0 : w2.cell? ⟨w.heap.size + 1, 0, none⟩ = some (.int .i64 fl) := cell_of_row _ _ _ _ _ (0, 0) HB2.out.r1
          have c1_1 : w2.cell? ⟨w.heap.size + 1, 1, none⟩ = some (.bool false) := cell_of_row _ _ _ _ _ (0, 0) HB2.out.r1
          go_wp2_with fail
          refine (FL.out _).mono ?_
          rintro e w3 ⟨rfl, hb3⟩
          have HB3 := Lib.hid (HB2.out.next hb3)
          clear c0_0 c0_1 c0_2 c1_0 c1_1 hb3 HB2
          go_wp2_with (with_reducible show wpList _ _ _ (Oper.mk _ (.store 23 _ _) _ _ _ _ :: _) _ _; refine Hid.out ?_)
          refine Lib.hid ?_
          refine wpList_put rfl 23 _ _ rfl (w.heap.size + 2) #[.int .i64 0, .int .i64 l2, .int .i64 l3] _ 23 rfl rfl HB3.out.r2 (by kernel_rfl) rfl (by kernel_rfl) ?_
          intro w4 hr4 hg4
          have HB4 : Hid (Bx w [(w.heap.size, .cells #[.int .i64 0, .int .i64 b, .int .i64 0] 23 (0, 0)), (w.heap.size + 1, .cells #[.int .i64 fl, .bool false, .int .i64 f2, .bool f3] 25 (0, 0)), (w.heap.size + 2, .cells #[.int .i64 0, .int .i64 l2, .int .i64 l3] 23 (0, 0))] w4) := Lib.hid (HB3.out.put (by omega) hg4.out hr4.out (by simp only [List.mem_cons, List.not_mem_nil, or_false]; rintro p (rfl | rfl | rfl) <;> simp <;> omega))
          clear hr4 hg4 HB3
          go_wp2_with fail
          exact bodyPost_ret (results_row_tmp2 Tryd.results12 _ _ _ _ _ (0, 0) _ rfl HB4.out.r2 Tryd.underlying23 rfl (by kernel_rfl)) rfl (⟨rfl, HB4.out.below⟩)
        · rw [if_neg (by decide)]
          have FS := Lib.hid (fun wx => refMoState_any F k 0 fl wx)
          by_cases hk : k = 0
          · subst hk
            rw [if_neg (fun h => h.1 rfl)]
            clear hF hb FL FS
            have HB0 := Lib.hid (bxs3 w (.cells #[.int .i64 0, .int .i64 b, .int .i64 0] 23) (.cells #[.int .i64 fl, .bool true, .int .i64 f2, .bool f3] 25) (.cells #[.int .i64 0, .int .i64 0, .int .i64 0] 23))
            go_enter Tryd.func12, Tryd.ntmps12
            go_wp2_with fail
            refine (FI.out _).mono ?_
            rintro e w1 ⟨rfl, hb1⟩
            have HB1 := Lib.hid (HB0.out.next hb1)
            clear hb1 HB0
            have c0_0 : w1.cell? ⟨w.heap.size, 0, none⟩ = some (.int .i64 0) := cell_of_row _ _ _ _ _ (0, 0) HB1.out.r0
            have c0_1 : w1.cell? ⟨w.heap.size, 1, none⟩ = some (.int .i64 b) := cell_of_row _ _ _ _ _ (0, 0) HB1.out.r0
            have c0_2 : w1.cell? ⟨w.heap.size, 2, none⟩ = some (.int .i64 0) := cell_of_row _ _ _ _ _ (0, 0) HB1.out.r0
            have c1_0 : w1.cell? ⟨w.heap.size + 1, 0, none⟩ = some (.int .i64 fl) := cell_of_row _ _ _ _ _ (0, 0) HB1.out.r1
            have c1_1 : w1.cell? ⟨w.heap.size + 1, 1, none⟩ = some (.bool true) := cell_of_row _ _ _ _ _ (0, 0) HB1.out.r1
            go_wp2_with fail
            refine (FF.out _).mono ?_
            rintro e w2 ⟨rfl, hb2⟩
            have HB2 := Lib.hid (HB1.out.next hb2)
            clear c0_0 c0_1 c0_2 c1_0 c1_1 hb2 HB1
            have c0_0 : w2.cell? ⟨w.heap.size, 0, none⟩ = some (.int .i64 0) := cell_of_row _ _ _ _ _ (0, 0) HB2.out.r0
            have c0_1 : w2.cell? ⟨w.heap.size, 1, none⟩ = some (.int .i64 b) := cell_of_row _ _ _ _ _ (0, 0) HB2.out.r0
            have c0_2 : w2.cell? ⟨w.heap.size, 2, none⟩ = some (.int .i64 0) := cell_of_row _ _ _ _ _ (0, 0) HB2.out.r0
            have c1_0 : w2.cell? ⟨w.heap.size + 1, 0, none⟩ = some (.int .i64 fl) := cell_of_row _ _ _ _ _ (0, 0) HB2.out.r1
            have c1_1 : w2.cell? ⟨w.heap.size + 1, 1, none⟩ = some (.bool true) := cell_of_row _ _ _ _ _ (0, 0) HB2.out.r1
            go_wp2_with (with_reducible show wpList _ _ _ (Oper.mk _ (.store 23 _ _) _ _ _ _ :: _) _ _; refine Hid.out ?_)
            refine Lib.hid ?_
            have l3_0 : w.heap.size < w2.heap.size := (Array.getElem?_eq_some_iff.1 HB2.out.r0).1
            have l3_1 : w.heap.size + 1 < w2.heap.size := (Array.getElem?_eq_some_iff.1 HB2.out.r1).1
            have l3_2 : w.heap.size + 2 < w2.heap.size := (Array.getElem?_eq_some_iff.1 HB2.out.r2).1
            have lw3 : w.heap.size ≤ w2.heap.size := HB2.out.below.size
            refine wpList_put rfl 23 _ _ rfl w2.heap.size #[.int .i64 0, .int .i64 0, .int .i64 fl] _ 23 rfl rfl (heap_alloc_new w2 _) (by kernel_rfl) rfl (by kernel_rfl) ?_
            intro w3 hr3 hg3
            have HB3 : Hid (Bx w [(w2.heap.size, .cells #[.int .i64 0, .int .i64 0, .int .i64 fl] 23 (0, 0)), (w.heap.size, .cells #[.int .i64 0, .int .i64 b, .int .i64 0] 23 (0, 0)), (w.heap.size + 1, .cells #[.int .i64 fl, .bool true, .int .i64 f2, .bool f3] 25 (0, 0)), (w.heap.size + 2, .cells #[.int .i64 0, .int .i64 0, .int .i64 0] 23 (0, 0))] w3) := Lib.hid ((HB2.out.make (heap_alloc_new w2 (.cells #[.int .i64 0, .int .i64 0, .int .i64 0] 23)) ((Below.refl w2.heap.size w2).alloc (Nat.le_refl _) _)).put HB2.out.below.size hg3.out hr3.out (by simp only [List.mem_cons, List.not_mem_nil, or_false]; rintro p (rfl | rfl | rfl | rfl) <;> simp <;> omega))
            clear c0_0 c0_1 c0_2 c1_0 c1_1 hr3 hg3 HB2
            generalize w2.heap.size = gn at *
            have c0_0 : w3.cell? ⟨gn, 0, none⟩ = some (.int .i64 0) := cell_of_row _ _ _ _ _ (0, 0) HB3.out.r0
            have c0_1 : w3.cell? ⟨gn, 1, none⟩ = some (.int .i64 0) := cell_of_row _ _ _ _ _ (0, 0) HB3.out.r0
            have c0_2 : w3.cell? ⟨gn, 2, none⟩ = some (.int .i64 fl) := cell_of_row _ _ _ _ _ (0, 0) HB3.out.r0
            go_wp2_with (with_reducible show wpList _ _ _ (Oper.mk _ (.store 23 _ _) _ _ _ _ :: _) _ _; refine Hid.out ?_)
            refine Lib.hid ?_
            refine wpList_put rfl 23 _ _ rfl (w.heap.size + 2) #[.int .i64 0, .int .i64 0, .int .i64 0] _ 23 rfl rfl HB3.out.r3 (by kernel_rfl) rfl (by kernel_rfl) ?_
            intro w4 hr4 hg4
            have HB4 : Hid (Bx w [(gn, .cells #[.int .i64 0, .int .i64 0, .int .i64 fl] 23 (0, 0)), (w.heap.size, .cells #[.int .i64 0, .int .i64 b, .int .i64 0] 23 (0, 0)), (w.heap.size + 1, .cells #[.int .i64 fl, .bool true, .int .i64 f2, .bool f3] 25 (0, 0)), (w.heap.size + 2, .cells #[.int .i64 0, .int .i64 0, .int .i64 0] 23 (0, 0))] w4) := Lib.hid (HB3.out.put (by omega) hg4.out hr4.out (by simp only [List.mem_cons, List.not_mem_nil, or_false]; rintro p (rfl | rfl | rfl | rfl) <;> simp <;> omega))
            clear c0_0 c0_1 c0_2 hr4 hg4 HB3
            go_wp2_with fail
            exact bodyPost_ret (results_row_tmp2 Tryd.results12 _ _ _ _ _ (0, 0) _ rfl HB4.out.r3 Tryd.underlying23 rfl (by kernel_rfl)) rfl (⟨rfl, HB4.out.below⟩)
          · cases hq : Mo.isB F ⟨k, 0, fl⟩
            · rw [hq] at FS
              rw [if_neg (fun h => by cases h.2)]
              clear hF hb FL hq
              have HB0 := Lib.hid (bxs3 w (.cells #[.int .i64 0, .int .i64 b, .int .i64 0] 23) (.cells #[.int .i64 fl, .bool true, .int .i64 f2, .bool f3] 25) (.cells #[.int .i64 0, .int .i64 0, .int .i64 0] 23))
              go_enter Tryd.func12, Tryd.ntmps12
              go_wp2_with fail
              refine (FI.out _).mono ?_
              rintro e w1 ⟨rfl, hb1⟩
              have HB1 := Lib.hid (HB0.out.next hb1)
              clear hb1 HB0
              have c0_0 : w1.cell? ⟨w.heap.size, 0, none⟩ = some (.int .i64 0) := cell_of_row _ _ _ _ _ (0, 0) HB1.out.r0
              have c0_1 : w1.cell? ⟨w.heap.size, 1, none⟩ = some (.int .i64 b) := cell_of_row _ _ _ _ _ (0, 0) HB1.out.r0
              have c0_2 : w1.cell? ⟨w.heap.size, 2, none⟩ = some (.int .i64 0) := cell_of_row _ _ _ _ _ (0, 0) HB1.out.r0
              have c1_0 : w1.cell? ⟨w.heap.size + 1, 0, none⟩ = some (.int .i64 fl) := cell_of_row _ _ _ _ _ (0, 0) HB1.out.r1
              have c1_1 : w1.cell? ⟨w.heap.size + 1, 1, none⟩ = some (.bool true) := cell_of_row _ _ _ _ _ (0, 0) HB1.out.r1
              go_wp2_with fail
              refine (FF.out _).mono ?_
              rintro e w2 ⟨rfl, hb2⟩
              have HB2 := Lib.hid (HB1.out.next hb2)
              clear c0_0 c0_1 c0_2 c1_0 c1_1 hb2 HB1
              have c0_0 : w2.cell? ⟨w.heap.size, 0, none⟩ = some (.int .i64 0) := cell_of_row _ _ _ _ _ (0, 0) HB2.out.r0
              have c0_1 : w2.cell? ⟨w.heap.size, 1, none⟩ = some (.int .i64 b) := cell_of_row _ _ _ _ _ (0, 0) HB2.out.r0
              have c0_2 : w2.cell? ⟨w.heap.size, 2, none⟩ = some (.int .i64 0) := cell_of_row _ _ _ _ _ (0, 0) HB2.out.r0
              have c1_0 : w2.cell? ⟨w.heap.size + 1, 0, none⟩ = some (.int .i64 fl) := cell_of_row _ _ _ _ _ (0, 0) HB2.out.r1
              have c1_1 : w2.cell? ⟨w.heap.size + 1, 1, none⟩ = some (.bool true) := cell_of_row _ _ _ _ _ (0, 0) HB2.out.r1
              go_wp2_with (with_reducible show wpList _ _ _ (Oper.mk _ (.store 23 _ _) _ _ _ _ :: _) _ _; refine Hid.out ?_)
              refine Lib.hid ?_
              have l3_0 : w.heap.size < w2.heap.size := (Array.getElem?_eq_some_iff.1 HB2.out.r0).1
              have l3_1 : w.heap.size + 1 < w2.heap.size := (Array.getElem?_eq_some_iff.1 HB2.out.r1).1
              have l3_2 : w.heap.size + 2 < w2.heap.size := (Array.getElem?_eq_some_iff.1 HB2.out.r2).1
              have lw3 : w.heap.size ≤ w2.heap.size := HB2.out.below.size
              refine wpList_put rfl 23 _ _ rfl w2.heap.size #[.int .i64 k, .int .i64 0, .int .i64 fl] _ 23 rfl rfl (heap_alloc_new w2 _) (by kernel_rfl) rfl (by kernel_rfl) ?_
              intro w3 hr3 hg3
              have HB3 : Hid (Bx w [(w2.heap.size, .cells #[.int .i64 k, .int .i64 0, .int .i64 fl] 23 (0, 0)), (w.heap.size, .cells #[.int .i64 0, .int .i64 b, .int .i64 0] 23 (0, 0)), (w.heap.size + 1, .cells #[.int .i64 fl, .bool true, .int .i64 f2, .bool f3] 25 (0, 0)), (w.heap.size + 2, .cells #[.int .i64 0, .int .i64 0, .int .i64 0] 23 (0, 0))] w3) := Lib.hid ((HB2.out.make (heap_alloc_new w2 (.cells #[.int .i64 0, .int .i64 0, .int .i64 0] 23)) ((Below.refl w2.heap.size w2).alloc (Nat.le_refl _) _)).put HB2.out.below.size hg3.out hr3.out (by simp only [List.mem_cons, List.not_mem_nil, or_false]; rintro p (rfl | rfl | rfl | rfl) <;> simp <;> omega))
              clear c0_0 c0_1 c0_2 c1_0 c1_1 hr3 hg3 HB2
              generalize w2.heap.size = gn at *
              have c0_0 : w3.cell? ⟨gn, 0, none⟩ = some (.int .i64 k) := cell_of_row _ _ _ _ _ (0, 0) HB3.out.r0
              have c0_1 : w3.cell? ⟨gn, 1, none⟩ = some (.int .i64 0) := cell_of_row _ _ _ _ _ (0, 0) HB3.out.r0
              have c0_2 : w3.cell? ⟨gn, 2, none⟩ = some (.int .i64 fl) := cell_of_row _ _ _ _ _ (0, 0) HB3.out.r0
              go_wp2_with fail
              refine (FS.out _).mono ?_
              rintro e w4 ⟨rfl, hb4⟩
              have HB4 := Lib.hid (HB3.out.next hb4)
              clear c0_0 c0_1 c0_2 hb4 HB3
              have c0_0 : w4.cell? ⟨gn, 0, none⟩ = some (.int .i64 k) := cell_of_row _ _ _ _ _ (0, 0) HB4.out.r0
              have c0_1 : w4.cell? ⟨gn, 1, none⟩ = some (.int .i64 0) := cell_of_row _ _ _ _ _ (0, 0) HB4.out.r0
              have c0_2 : w4.cell? ⟨gn, 2, none⟩ = some (.int .i64 fl) := cell_of_row _ _ _ _ _ (0, 0) HB4.out.r0
              go_wp2_with (with_reducible show wpList _ _ _ (Oper.mk _ (.store 23 _ _) _ _ _ _ :: _) _ _; refine Hid.out ?_)
              refine Lib.hid ?_
              refine wpList_put rfl 23 _ _ rfl (w.heap.size + 2) #[.int .i64 0, .int .i64 0, .int .i64 0] _ 23 rfl rfl HB4.out.r3 (by kernel_rfl) rfl (by kernel_rfl) ?_
              intro w5 hr5 hg5
              have HB5 : Hid (Bx w [(gn, .cells #[.int .i64 k, .int .i64 0, .int .i64 fl] 23 (0, 0)), (w.heap.size, .cells #[.int .i64 0, .int .i64 b, .int .i64 0] 23 (0, 0)), (w.heap.size + 1, .cells #[.int .i64 fl, .bool true, .int .i64 f2, .bool f3] 25 (0, 0)), (w.heap.size + 2, .cells #[.int .i64 0, .int .i64 0, .int .i64 0] 23 (0, 0))] w5) := Lib.hid (HB4.out.put (by omega) hg5.out hr5.out (by simp only [List.mem_cons, List.not_mem_nil, or_false]; rintro p (rfl | rfl | rfl | rfl) <;> simp <;> omega))
              clear c0_0 c0_1 c0_2 hr5 hg5 HB4
              go_wp2_with fail
              exact bodyPost_ret (results_row_tmp2 Tryd.results12 _ _ _ _ _ (0, 0) _ rfl HB5.out.r3 Tryd.underlying23 rfl (by kernel_rfl)) rfl (⟨rfl, HB5.out.below⟩)
            · rw [hq] at FS
              rw [if_pos ⟨hk, rfl⟩]
              clear hF hb FL hq
              have HB0 := Lib.hid (bxs3 w (.cells #[.int .i64 0, .int .i64 b, .int .i64 0] 23) (.cells #[.int .i64 fl, .bool true, .int .i64 f2, .bool f3] 25) (.cells #[.int .i64 0, .int .i64 0, .int .i64 0] 23))
              go_enter Tryd.func12, Tryd.ntmps12
              go_wp2_with fail
              refine (FI.out _).mono ?_
              rintro e w1 ⟨rfl, hb1⟩
              have HB1 := Lib.hid (HB0.out.next hb1)
              clear hb1 HB0
              have c0_0 : w1.cell? ⟨w.heap.size, 0, none⟩ = some (.int .i64 0) := cell_of_row _ _ _ _ _ (0, 0) HB1.out.r0
              have c0_1 : w1.cell? ⟨w.heap.size, 1, none⟩ = some (.int .i64 b) := cell_of_row _ _ _ _ _ (0, 0) HB1.out.r0
              have c0_2 : w1.cell? ⟨w.heap.size, 2, none⟩ = some (.int .i64 0) := cell_of_row _ _ _ _ _ (0, 0) HB1.out.r0
              have c1_0 : w1.cell? ⟨w.heap.size + 1, 0, none⟩ = some (.int .i64 fl) := cell_of_row _ _ _ _ _ (0, 0) HB1.out.r1
              have c1_1 : w1.cell? ⟨w.heap.size + 1, 1, none⟩ = some (.bool true) := cell_of_row _ _ _ _ _ (0, 0) HB1.out.r1
              go_wp2_with fail
              refine (FF.out _).mono ?_
              rintro e w2 ⟨rfl, hb2⟩
              have HB2 := Lib.hid (HB1.out.next hb2)
              clear c0_0 c0_1 c0_2 c1_0 c1_1 hb2 HB1
              have c0_0 : w2.cell? ⟨w.heap.size, 0, none⟩ = some (.int .i64 0) := cell_of_row _ _ _ _ _ (0, 0) HB2.out.r0
              have c0_1 : w2.cell? ⟨w.heap.size, 1, none⟩ = some (.int .i64 b) := cell_of_row _ _ _ _ _ (0, 0) HB2.out.r0
              have c0_2 : w2.cell? ⟨w.heap.size, 2, none⟩ = some (.int .i64 0) := cell_of_row _ _ _ _ _ (0, 0) HB2.out.r0
              have c1_0 : w2.cell? ⟨w.heap.size + 1, 0, none⟩ = some (.int .i64 fl) := cell_of_row _ _ _ _ _ (0, 0) HB2.out.r1
              have c1_1 : w2.cell? ⟨w.heap.size + 1, 1, none⟩ = some (.bool true) := cell_of_row _ _ _ _ _ (0, 0) HB2.out.r1
              go_wp2_with (with_reducible show wpList _ _ _ (Oper.mk _ (.store 23 _ _) _ _ _ _ :: _) _ _; refine Hid.out ?_)
              refine Lib.hid ?_
              have l3_0 : w.heap.size < w2.heap.size := (Array.getElem?_eq_some_iff.1 HB2.out.r0).1
              have l3_1 : w.heap.size + 1 < w2.heap.size := (Array.getElem?_eq_some_iff.1 HB2.out.r1).1
              have l3_2 : w.heap.size + 2 < w2.heap.size := (Array.getElem?_eq_some_iff.1 HB2.out.r2).1
              have lw3 : w.heap.size ≤ w2.heap.size := HB2.out.below.size
              refine wpList_put rfl 23 _ _ rfl w2.heap.size #[.int .i64 k, .int .i64 0, .int .i64 fl] _ 23 rfl rfl (heap_alloc_new w2 _) (by kernel_rfl) rfl (by kernel_rfl) ?_
              intro w3 hr3 hg3
              have HB3 : Hid (Bx w [(w2.heap.size, .cells #[.int .i64 k, .int .i64 0, .int .i64 fl] 23 (0, 0)), (w.heap.size, .cells #[.int .i64 0, .int .i64 b, .int .i64 0] 23 (0, 0)), (w.heap.size + 1, .cells #[.int .i64 fl, .bool true, .int .i64 f2, .bool f3] 25 (0, 0)), (w.heap.size + 2, .cells #[.int .i64 0, .int .i64 0, .int .i64 0] 23 (0, 0))] w3) := Lib.hid ((HB2.out.make (heap_alloc_new w2 (.cells #[.int .i64 0, .int .i64 0, .int .i64 0] 23)) ((Below.refl w2.heap.size w2).alloc (Nat.le_refl _) _)).put HB2.out.below.size hg3.out hr3.out (by simp only [List.mem_cons, List.not_mem_nil, or_false]; rintro p (rfl | rfl | rfl | rfl) <;> simp <;> omega))
              clear c0_0 c0_1 c0_2 c1_0 c1_1 hr3 hg3 HB2
              generalize w2.heap.size = gn at *
              have c0_0 : w3.cell? ⟨gn, 0, none⟩ = some (.int .i64 k) := cell_of_row _ _ _ _ _ (0, 0) HB3.out.r0
              have c0_1 : w3.cell? ⟨gn, 1, none⟩ = some (.int .i64 0) := cell_of_row _ _ _ _ _ (0, 0) HB3.out.r0
              have c0_2 : w3.cell? ⟨gn, 2, none⟩ = some (.int .i64 fl) := cell_of_row _ _ _ _ _ (0, 0) HB3.out.r0
              go_wp2_with fail
              refine (FS.out _).mono ?_
              rintro e w4 ⟨rfl, hb4⟩
              have HB4 := Lib.hid (HB3.out.next hb4)
              clear c0_0 c0_1 c0_2 hb4 HB3
              have c0_0 : w4.cell? ⟨gn, 0, none⟩ = some (.int .i64 k) := cell_of_row _ _ _ _ _ (0, 0) HB4.out.r0
              have c0_1 : w4.cell? ⟨gn, 1, none⟩ = some (.int .i64 0) := cell_of_row _ _ _ _ _ (0, 0) HB4.out.r0
              have c0_2 : w4.cell? ⟨gn, 2, none⟩ = some (.int .i64 fl) := cell_of_row _ _ _ _ _ (0, 0) HB4.out.r0
              go_wp2_with (with_reducible show wpList _ _ _ (Oper.mk _ (.store 23 _ _) _ _ _ _ :: _) _ _; refine Hid.out ?_)
              refine Lib.hid ?_
              refine wpList_put rfl 23 _ _ rfl (w.heap.size + 2) #[.int .i64 k, .int .i64 0, .int .i64 fl] _ 23 rfl rfl HB4.out.r3 (by kernel_rfl) rfl (by kernel_rfl) ?_
              intro w5 hr5 hg5
              have HB5 : Hid (Bx w [(gn, .cells #[.int .i64 k, .int .i64 0, .int .i64 fl] 23 (0, 0)), (w.heap.size, .cells #[.int .i64 0, .int .i64 b, .int .i64 0] 23 (0, 0)), (w.heap.size + 1, .cells #[.int .i64 fl, .bool true, .int .i64 f2, .bool f3] 25 (0, 0)), (w.heap.size + 2, .cells #[.int .i64 k, .int .i64 0, .int .i64 fl] 23 (0, 0))] w5) := Lib.hid (HB4.out.put (by omega) hg5.out hr5.out (by simp only [List.mem_cons, List.not_mem_nil, or_false]; rintro p (rfl | rfl | rfl | rfl) <;> simp <;> omega))
              clear c0_0 c0_1 c0_2 hr5 hg5 HB4
              go_wp2_with fail
              exact bodyPost_ret (results_row_tmp2 Tryd.results12 _ _ _ _ _ (0, 0) _ rfl HB5.out.r3 Tryd.underlying23 rfl (by kernel_rfl)) rfl (⟨rfl, HB5.out.below⟩)
      · rw [if_pos h0]
        have hcr := hac.resolve_left (fun h => h0 h.1)
        obtain ⟨h12, hc1, hc2⟩ := hcr
        have hcc := Mo.isF_iff.1 hc1
        have FG := Lib.hid (fun wx => refTarget_any a b c wx (by omega))
        have hl1 : (Mo.later ⟨a, b, c⟩).c = a := by unfold Mo.later; split <;> rfl
        generalize Mo.later ⟨a, b, c⟩ = l at *
        obtain ⟨l1, l2, l3⟩ := l
        simp only at hl1
        subst hl1
        simp only [Mo.agg] at FL
        generalize Mo.tgt ⟨l1, b, c⟩ = tg at *
        clear hac hc1 hc2 hcc h12 hF hb
        cases lv
        · rw [if_neg (fun h => by cases h.1)]
          have HB0 := Lib.hid (bxs3 w (.cells #[.int .i64 l1, .int .i64 b, .int .i64 c] 23) (.cells #[.int .i64 fl, .bool false, .int .i64 f2, .bool f3] 25) (.cells #[.int .i64 0, .int .i64 0, .int .i64 0] 23))
          go_enter Tryd.func12, Tryd.ntmps12
          go_wp2_with fail
          refine (FI.out _).mono ?_
          rintro e w1 ⟨rfl, hb1⟩
          have HB1 := Lib.hid (HB0.out.next hb1)
          clear hb1 HB0
          have c0_0 : w1.cell? ⟨w.heap.size, 0, none⟩ = some (.int .i64 l1) := cell_of_row _ _ _ _ _ (0, 0) HB1.out.r0
          have c0_1 : w1.cell? ⟨w.heap.size, 1, none⟩ = some (.int .i64 b) := cell_of_row _ _ _ _ _ (0, 0) HB1.out.r0
          have c0_2 : w1.cell? ⟨w.heap.size, 2, none⟩ = some (.int .i64 c) := cell_of_row _ _ _ _ _ (0, 0) HB1.out.r0
          have c1_0 : w1.cell? ⟨w.heap.size + 1, 0, none⟩ = some (.int .i64 fl) := cell_of_row _ _ _ _ _ (0, 0) HB1.out.r1
          have c1_1 : w1.cell? ⟨w.heap.size + 1, 1, none⟩ = some (.bool false) := cell_of_row _ _ _ _ _ (0, 0) HB1.out.r1
          go_wp2_with fail
          refine (FF.out _).mono ?_
          rintro e w2 ⟨rfl, hb2⟩
          have HB2 := Lib.hid (HB1.out.next hb2)
          clear c0_0 c0_1 c0_2 c1_0 c1_1 hb2 HB1
          have c0_0 : w2.cell? ⟨w.heap.size, 0, none⟩ = some (.int .i64 l1) := cell_of_row _ _ _ _ _ (0, 0) HB2.out.r0
          have c0_1 : w2.cell? ⟨w.heap.size, 1, none⟩ = some (.int .i64 b) := cell_of_row _ _ _ _ _ (0, 0) HB2.out.r0
          have c0_2 : w2.cell? ⟨w.heap.size, 2, none⟩ = some (.int .i64 c) := cell_of_row _ _ _ _ _ (0, 0) HB2.out.r0
          have c1_0 : w2.cell? ⟨w.heap.size + 1, 0, none⟩ = some (.int .i64 fl) := cell_of_row _ _ _ _ _ (0, 0) HB2.out.r1
          have c1_1 : w2.cell? ⟨w.heap.size + 1, 1, none⟩ = some (.bool false) := cell_of_row _ _ _ _ _ (0, 0) HB2.out.r1
          go_wp2_with fail
          refine Bag.region (fun wx => Below w2.heap.size w2 wx) (by kernel_rfl) (by kernel_rfl) (Below.refl _ _).drew ?_
          iterate 9 (first
              | (apply Bag.walk_yes (by rfl)
                 (intro wx hx K hK
                  have HXx := HB2.out.next hx
                  have z0_0 : wx.cell? ⟨w.heap.size, 0, none⟩ = some (.int .i64 l1) := cell_of_row _ _ _ _ _ (0, 0) HXx.r0
                  have z0_1 : wx.cell? ⟨w.heap.size, 1, none⟩ = some (.int .i64 b) := cell_of_row _ _ _ _ _ (0, 0) HXx.r0
                  have z0_2 : wx.cell? ⟨w.heap.size, 2, none⟩ = some (.int .i64 c) := cell_of_row _ _ _ _ _ (0, 0) HXx.r0
                  have z1_0 : wx.cell? ⟨w.heap.size + 1, 0, none⟩ = some (.int .i64 fl) := cell_of_row _ _ _ _ _ (0, 0) HXx.r1
                  have z1_1 : wx.cell? ⟨w.heap.size + 1, 1, none⟩ = some (.bool false) := cell_of_row _ _ _ _ _ (0, 0) HXx.r1
                  first
                    | (go_simp
                       first
                        | (go_at_K; exact hK _ hx)))
                 rfl)
              | (refine Bag.walk_no (by rfl) ?_; simp only [Act.put, List.setIfInBounds_toArray, List.set_cons_succ, List.set_cons_zero]))
          refine Bag.walk_nil (fun w3 hb3 => ?_)
          have HB3 := Lib.hid (HB2.out.next hb3)
          clear c0_0 c0_1 c0_2 c1_0 c1_1 hb3 HB2
          have c0_0 : w3.cell? ⟨w.heap.size, 0, none⟩ = some (.int .i64 l1) := cell_of_row _ _ _ _ _ (0, 0) HB3.out.r0
          have c0_1 : w3.cell? ⟨w.heap.size, 1, none⟩ = some (.int .i64 b) := cell_of_row _ _ _ _ _ (0, 0) HB3.out.r0
          have c0_2 : w3.cell? ⟨w.heap.size, 2, none⟩ = some (.int .i64 c) := cell_of_row _ _ _ _ _ (0, 0) HB3.out.r0
          have c1_0 : w3.cell? ⟨w.heap.size + 1, 0, none⟩ = some (.int .i64 fl) := cell_of_row _ _ _ _ _ (0, 0) HB3.out.r1
          have c1_1 : w3.cell? ⟨w.heap.size + 1, 1, none⟩ = some (.bool false) := cell_of_row _ _ _ _ _ (0, 0) HB3.out.r1
          go_wp2_with fail
          have q0 : w.heap.size < w3.heap.size := (Array.getElem?_eq_some_iff.1 HB3.out.r0).1
          have q1 : w.heap.size + 1 < w3.heap.size := (Array.getElem?_eq_some_iff.1 HB3.out.r1).1
          have q2 : w.heap.size + 2 < w3.heap.size := (Array.getElem?_eq_some_iff.1 HB3.out.r2).1
          refine Chain.chain (fun p wx => Put (w3) (w.heap.size + 2) (.cells (if p = 0 then #[.int .i64 0, .int .i64 0, .int .i64 0] else #[.int .i64 l1, .int .i64 l2, .int .i64 l3]) 23 (0, 0)) wx) (fun _ _ => False) [4] (by kernel_rfl) (by kernel_rfl) (fun _ _ _ _ h => h.elim) ((Put.start HB3.out.r2).drew) ?_
          iterate 4 (first
              | (apply Chain.walk_quiet (by rfl) (by decide)
                 (intro p wx hp hwn hx K hK
                  have z0_0 : wx.cell? ⟨w.heap.size, 0, none⟩ = some (.int .i64 l1) := cell_of_row _ _ _ _ _ (0, 0) ((hx.other (w.heap.size) q0 (by omega)).trans HB3.out.r0)
                  have z0_1 : wx.cell? ⟨w.heap.size, 1, none⟩ = some (.int .i64 b) := cell_of_row _ _ _ _ _ (0, 0) ((hx.other (w.heap.size) q0 (by omega)).trans HB3.out.r0)
                  have z0_2 : wx.cell? ⟨w.heap.size, 2, none⟩ = some (.int .i64 c) := cell_of_row _ _ _ _ _ (0, 0) ((hx.other (w.heap.size) q0 (by omega)).trans HB3.out.r0)
                  first
                    | (go_simp
                       first
                        | (go_at_call 23; (with_reducible refine (FL.out _).mono ?_); rintro e x1 ⟨rfl, hb⟩; exact hK _ (hx.next hb))
                        | (go_at_K; exact hK _ hx)))
                 exact ⟨_, rfl⟩)
              | (refine Chain.walk_no (by rfl) (by decide) ?_; simp only [Act.put, List.setIfInBounds_toArray, List.set_cons_succ, List.set_cons_zero]))
          apply Chain.walk_turn 0 (by rfl) (by rfl)
          · intro wx hx K hK
            exact Put.store 23 _ _ rfl rfl rfl hx (by kernel_rfl) rfl (by kernel_rfl) (fun w2 h => hK w2 h)
          · exact ⟨undef, rfl⟩
          iterate 2 (
                 apply Chain.walk_quiet (by rfl) (by decide)
                 (intro p wx hp hwn hx K hK
                  go_simp
                  (go_at_K; exact hK _ hx))
                 exact ⟨_, rfl⟩)
          refine Chain.walk_nil (fun w4 hp4 => ?_)
          replace hp4 : Put (w3) (w.heap.size + 2) (.cells #[.int .i64 l1, .int .i64 l2, .int .i64 l3] 23 (0, 0)) w4 := hp4
          try simp only [Act.put, List.setIfInBounds_toArray, List.set_cons_succ, List.set_cons_zero]
          have HB4 : Hid (Bx w [(w.heap.size, .cells #[.int .i64 l1, .int .i64 b, .int .i64 c] 23 (0, 0)), (w.heap.size + 1, .cells #[.int .i64 fl, .bool false, .int .i64 f2, .bool f3] 25 (0, 0)), (w.heap.size + 2, .cells #[.int .i64 l1, .int .i64 l2, .int .i64 l3] 23 (0, 0))] w4) := Lib.hid (HB3.out.ofPut (by omega) hp4 (by simp only [List.mem_cons, List.not_mem_nil, or_false]; rintro p (rfl | rfl | rfl) <;> simp <;> omega))
          clear c0_0 c0_1 c0_2 c1_0 c1_1 hp4 HB3 q0 q1 q2
          go_wp2_with fail
          exact bodyPost_ret (results_row_tmp2 Tryd.results12 _ _ _ _ _ (0, 0) _ rfl HB4.out.r2 Tryd.underlying23 rfl (by kernel_rfl)) rfl (⟨rfl, HB4.out.below⟩)
        · by_cases hfe : fl = tg
          · rw [if_pos ⟨rfl, hfe⟩]
            clear FL
            have hfB : (fl == tg) = true := by simp [hfe]
            clear hfe
            have HB0 := Lib.hid (bxs3 w (.cells #[.int .i64 l1, .int .i64 b, .int .i64 c] 23) (.cells #[.int .i64 fl, .bool true, .int .i64 f2, .bool f3] 25) (.cells #[.int .i64 0, .int .i64 0, .int .i64 0] 23))
            go_enter Tryd.func12, Tryd.ntmps12
            go_wp2_with fail
            refine (FI.out _).mono ?_
            rintro e w1 ⟨rfl, hb1⟩
            have HB1 := Lib.hid (HB0.out.next hb1)
            clear hb1 HB0
            have c0_0 : w1.cell? ⟨w.heap.size, 0, none⟩ = some (.int .i64 l1) := cell_of_row _ _ _ _ _ (0, 0) HB1.out.r0
            have c0_1 : w1.cell? ⟨w.heap.size, 1, none⟩ = some (.int .i64 b) := cell_of_row _ _ _ _ _ (0, 0) HB1.out.r0
            have c0_2 : w1.cell? ⟨w.heap.size, 2, none⟩ = some (.int .i64 c) := cell_of_row _ _ _ _ _ (0, 0) HB1.out.r0
            have c1_0 : w1.cell? ⟨w.heap.size + 1, 0, none⟩ = some (.int .i64 fl) := cell_of_row _ _ _ _ _ (0, 0) HB1.out.r1
            have c1_1 : w1.cell? ⟨w.heap.size + 1, 1, none⟩ = some (.bool true) := cell_of_row _ _ _ _ _ (0, 0) HB1.out.r1
            go_wp2_with fail
            refine (FF.out _).mono ?_
            rintro e w2 ⟨rfl, hb2⟩
            have HB2 := Lib.hid (HB1.out.next hb2)
            clear c0_0 c0_1 c0_2 c1_0 c1_1 hb2 HB1
            have c0_0 : w2.cell? ⟨w.heap.size, 0, none⟩ = some (.int .i64 l1) := cell_of_row _ _ _ _ _ (0, 0) HB2.out.r0
            have c0_1 : w2.cell? ⟨w.heap.size, 1, none⟩ = some (.int .i64 b) := cell_of_row _ _ _ _ _ (0, 0) HB2.out.r0
            have c0_2 : w2.cell? ⟨w.heap.size, 2, none⟩ = some (.int .i64 c) := cell_of_row _ _ _ _ _ (0, 0) HB2.out.r0
            have c1_0 : w2.cell? ⟨w.heap.size + 1, 0, none⟩ = some (.int .i64 fl) := cell_of_row _ _ _ _ _ (0, 0) HB2.out.r1
            have c1_1 : w2.cell? ⟨w.heap.size + 1, 1, none⟩ = some (.bool true) := cell_of_row _ _ _ _ _ (0, 0) HB2.out.r1
            go_wp2_with fail
            refine Bag.region (fun wx => Below w2.heap.size w2 wx) (by kernel_rfl) (by kernel_rfl) (Below.refl _ _).drew ?_
            iterate 9 (first
                | (apply Bag.walk_yes (by rfl)
                   (intro wx hx K hK
                    have HXx := HB2.out.next hx
                    have z0_0 : wx.cell? ⟨w.heap.size, 0, none⟩ = some (.int .i64 l1) := cell_of_row _ _ _ _ _ (0, 0) HXx.r0
                    have z0_1 : wx.cell? ⟨w.heap.size, 1, none⟩ = some (.int .i64 b) := cell_of_row _ _ _ _ _ (0, 0) HXx.r0
                    have z0_2 : wx.cell? ⟨w.heap.size, 2, none⟩ = some (.int .i64 c) := cell_of_row _ _ _ _ _ (0, 0) HXx.r0
                    have z1_0 : wx.cell? ⟨w.heap.size + 1, 0, none⟩ = some (.int .i64 fl) := cell_of_row _ _ _ _ _ (0, 0) HXx.r1
                    have z1_1 : wx.cell? ⟨w.heap.size + 1, 1, none⟩ = some (.bool true) := cell_of_row _ _ _ _ _ (0, 0) HXx.r1
                    first
                      | (go_simp
                         first
                          | (go_at_call 22; (with_reducible refine (FG.out _).mono ?_); rintro e x1 ⟨rfl, hb⟩; exact hK _ (hx.trans (hb.mono hx.size)))
                          | (go_at_K; exact hK _ hx)))
                   rfl)
                | (refine Bag.walk_no (by rfl) ?_; simp only [Act.put, List.setIfInBounds_toArray, List.set_cons_succ, List.set_cons_zero]))
            refine Bag.walk_nil (fun w3 hb3 => ?_)
            have HB3 := Lib.hid (HB2.out.next hb3)
            clear c0_0 c0_1 c0_2 c1_0 c1_1 hb3 HB2
            have c0_0 : w3.cell? ⟨w.heap.size, 0, none⟩ = some (.int .i64 l1) := cell_of_row _ _ _ _ _ (0, 0) HB3.out.r0
            have c0_1 : w3.cell? ⟨w.heap.size, 1, none⟩ = some (.int .i64 b) := cell_of_row _ _ _ _ _ (0, 0) HB3.out.r0
            have c0_2 : w3.cell? ⟨w.heap.size, 2, none⟩ = some (.int .i64 c) := cell_of_row _ _ _ _ _ (0, 0) HB3.out.r0
            have c1_0 : w3.cell? ⟨w.heap.size + 1, 0, none⟩ = some (.int .i64 fl) := cell_of_row _ _ _ _ _ (0, 0) HB3.out.r1
            have c1_1 : w3.cell? ⟨w.heap.size + 1, 1, none⟩ = some (.bool true) := cell_of_row _ _ _ _ _ (0, 0) HB3.out.r1
            go_wp2_with (with_reducible show wpList _ _ _ (Oper.mk _ (.store 23 _ _) _ _ _ _ :: _) _ _; refine Hid.out ?_)
            refine Lib.hid ?_
            refine wpList_put rfl 23 _ _ rfl (w.heap.size + 2) #[.int .i64 0, .int .i64 0, .int .i64 0] _ 23 rfl rfl HB3.out.r2 (by kernel_rfl) rfl (by kernel_rfl) ?_
            intro w4 hr4 hg4
            have HB4 : Hid (Bx w [(w.heap.size, .cells #[.int .i64 l1, .int .i64 b, .int .i64 c] 23 (0, 0)), (w.heap.size + 1, .cells #[.int .i64 fl, .bool true, .int .i64 f2, .bool f3] 25 (0, 0)), (w.heap.size + 2, .cells #[.int .i64 0, .int .i64 0, .int .i64 0] 23 (0, 0))] w4) := Lib.hid (HB3.out.put (by omega) hg4.out hr4.out (by simp only [List.mem_cons, List.not_mem_nil, or_false]; rintro p (rfl | rfl | rfl) <;> simp <;> omega))
            clear c0_0 c0_1 c0_2 c1_0 c1_1 hr4 hg4 HB3
            go_wp2_with fail
            exact bodyPost_ret (results_row_tmp2 Tryd.results12 _ _ _ _ _ (0, 0) _ rfl HB4.out.r2 Tryd.underlying23 rfl (by kernel_rfl)) rfl (⟨rfl, HB4.out.below⟩)
          · rw [if_neg (fun h => hfe h.2)]
            have hfB : (fl == tg) = false := by simp [hfe]
            have HB0 := Lib.hid (bxs3 w (.cells #[.int .i64 l1, .int .i64 b, .int .i64 c] 23) (.cells #[.int .i64 fl, .bool true, .int .i64 f2, .bool f3] 25) (.cells #[.int .i64 0, .int .i64 0, .int .i64 0] 23))
            go_enter Tryd.func12, Tryd.ntmps12
            go_wp2_with fail
            refine (FI.out _).mono ?_
            rintro e w1 ⟨rfl, hb1⟩
            have HB1 := Lib.hid (HB0.out.next hb1)
            clear hb1 HB0
            have c0_0 : w1.cell? ⟨w.heap.size, 0, none⟩ = some (.int .i64 l1) := cell_of_row _ _ _ _ _ (0, 0) HB1.out.r0
            have c0_1 : w1.cell? ⟨w.heap.size, 1, none⟩ = some (.int .i64 b) := cell_of_row _ _ _ _ _ (0, 0) HB1.out.r0
            have c0_2 : w1.cell? ⟨w.heap.size, 2, none⟩ = some (.int .i64 c) := cell_of_row _ _ _ _ _ (0, 0) HB1.out.r0
            have c1_0 : w1.cell? ⟨w.heap.size + 1, 0, none⟩ = some (.int .i64 fl) := cell_of_row _ _ _ _ _ (0, 0) HB1.out.r1
            have c1_1 : w1.cell? ⟨w.heap.size + 1, 1, none⟩ = some (.bool true) := cell_of_row _ _ _ _ _ (0, 0) HB1.out.r1
            go_wp2_with fail
            refine (FF.out _).mono ?_
            rintro e w2 ⟨rfl, hb2⟩
            have HB2 := Lib.hid (HB1.out.next hb2)
            clear c0_0 c0_1 c0_2 c1_0 c1_1 hb2 HB1
            have c0_0 : w2.cell? ⟨w.heap.size, 0, none⟩ = some (.int .i64 l1) := cell_of_row _ _ _ _ _ (0, 0) HB2.out.r0
            have c0_1 : w2.cell? ⟨w.heap.size, 1, none⟩ = some (.int .i64 b) := cell_of_row _ _ _ _ _ (0, 0) HB2.out.r0
            have c0_2 : w2.cell? ⟨w.heap.size, 2, none⟩ = some (.int .i64 c) := cell_of_row _ _ _ _ _ (0, 0) HB2.out.r0
            have c1_0 : w2.cell? ⟨w.heap.size + 1, 0, none⟩ = some (.int .i64 fl) := cell_of_row _ _ _ _ _ (0, 0) HB2.out.r1
            have c1_1 : w2.cell? ⟨w.heap.size + 1, 1, none⟩ = some (.bool true) := cell_of_row _ _ _ _ _ (0, 0) HB2.out.r1
            go_wp2_with fail
            refine Bag.region (fun wx => Below w2.heap.size w2 wx) (by kernel_rfl) (by kernel_rfl) (Below.refl _ _).drew ?_
            iterate 9 (first
                | (apply Bag.walk_yes (by rfl)
                   (intro wx hx K hK
                    have HXx := HB2.out.next hx
                    have z0_0 : wx.cell? ⟨w.heap.size, 0, none⟩ = some (.int .i64 l1) := cell_of_row _ _ _ _ _ (0, 0) HXx.r0
                    have z0_1 : wx.cell? ⟨w.heap.size, 1, none⟩ = some (.int .i64 b) := cell_of_row _ _ _ _ _ (0, 0) HXx.r0
                    have z0_2 : wx.cell? ⟨w.heap.size, 2, none⟩ = some (.int .i64 c) := cell_of_row _ _ _ _ _ (0, 0) HXx.r0
                    have z1_0 : wx.cell? ⟨w.heap.size + 1, 0, none⟩ = some (.int .i64 fl) := cell_of_row _ _ _ _ _ (0, 0) HXx.r1
                    have z1_1 : wx.cell? ⟨w.heap.size + 1, 1, none⟩ = some (.bool true) := cell_of_row _ _ _ _ _ (0, 0) HXx.r1
                    first
                      | (go_simp
                         first
                          | (go_at_call 22; (with_reducible refine (FG.out _).mono ?_); rintro e x1 ⟨rfl, hb⟩; exact hK _ (hx.trans (hb.mono hx.size)))
                          | (go_at_K; exact hK _ hx)))
                   rfl)
                | (refine Bag.walk_no (by rfl) ?_; simp only [Act.put, List.setIfInBounds_toArray, List.set_cons_succ, List.set_cons_zero]))
            refine Bag.walk_nil (fun w3 hb3 => ?_)
            have HB3 := Lib.hid (HB2.out.next hb3)
            clear c0_0 c0_1 c0_2 c1_0 c1_1 hb3 HB2
            have c0_0 : w3.cell? ⟨w.heap.size, 0, none⟩ = some (.int .i64 l1) := cell_of_row _ _ _ _ _ (0, 0) HB3.out.r0
            have c0_1 : w3.cell? ⟨w.heap.size, 1, none⟩ = some (.int .i64 b) := cell_of_row _ _ _ _ _ (0, 0) HB3.out.r0
            have c0_2 : w3.cell? ⟨w.heap.size, 2, none⟩ = some (.int .i64 c) := cell_of_row _ _ _ _ _ (0, 0) HB3.out.r0
            have c1_0 : w3.cell? ⟨w.heap.size + 1, 0, none⟩ = some (.int .i64 fl) := cell_of_row _ _ _ _ _ (0, 0) HB3.out.r1
            have c1_1 : w3.cell? ⟨w.heap.size + 1, 1, none⟩ = some (.bool true) := cell_of_row _ _ _ _ _ (0, 0) HB3.out.r1
            go_wp2_with fail
            have q0 : w.heap.size < w3.heap.size := (Array.getElem?_eq_some_iff.1 HB3.out.r0).1
            have q1 : w.heap.size + 1 < w3.heap.size := (Array.getElem?_eq_some_iff.1 HB3.out.r1).1
            have q2 : w.heap.size + 2 < w3.heap.size := (Array.getElem?_eq_some_iff.1 HB3.out.r2).1
            refine Chain.chain (fun p wx => Put (w3) (w.heap.size + 2) (.cells (if p = 0 then #[.int .i64 0, .int .i64 0, .int .i64 0] else #[.int .i64 l1, .int .i64 l2, .int .i64 l3]) 23 (0, 0)) wx) (fun _ _ => False) [4] (by kernel_rfl) (by kernel_rfl) (fun _ _ _ _ h => h.elim) ((Put.start HB3.out.r2).drew) ?_
            iterate 4 (first
                | (apply Chain.walk_quiet (by rfl) (by decide)
                   (intro p wx hp hwn hx K hK
                    have z0_0 : wx.cell? ⟨w.heap.size, 0, none⟩ = some (.int .i64 l1) := cell_of_row _ _ _ _ _ (0, 0) ((hx.other (w.heap.size) q0 (by omega)).trans HB3.out.r0)
                    have z0_1 : wx.cell? ⟨w.heap.size, 1, none⟩ = some (.int .i64 b) := cell_of_row _ _ _ _ _ (0, 0) ((hx.other (w.heap.size) q0 (by omega)).trans HB3.out.r0)
                    have z0_2 : wx.cell? ⟨w.heap.size, 2, none⟩ = some (.int .i64 c) := cell_of_row _ _ _ _ _ (0, 0) ((hx.other (w.heap.size) q0 (by omega)).trans HB3.out.r0)
                    first
                      | (go_simp
                         first
                          | (go_at_call 23; (with_reducible refine (FL.out _).mono ?_); rintro e x1 ⟨rfl, hb⟩; exact hK _ (hx.next hb))
                          | (go_at_K; exact hK _ hx)))
                   exact ⟨_, rfl⟩)
                | (refine Chain.walk_no (by rfl) (by decide) ?_; simp only [Act.put, List.setIfInBounds_toArray, List.set_cons_succ, List.set_cons_zero]))
            apply Chain.walk_turn 0 (by rfl) (by rfl)
            · intro wx hx K hK
              exact Put.store 23 _ _ rfl rfl rfl hx (by kernel_rfl) rfl (by kernel_rfl) (fun w2 h => hK w2 h)
            · exact ⟨undef, rfl⟩
            iterate 2 (
                   apply Chain.walk_quiet (by rfl) (by decide)
                   (intro p wx hp hwn hx K hK
                    go_simp
                    (go_at_K; exact hK _ hx))
                   exact ⟨_, rfl⟩)
            refine Chain.walk_nil (fun w4 hp4 => ?_)
            replace hp4 : Put (w3) (w.heap.size + 2) (.cells #[.int .i64 l1, .int .i64 l2, .int .i64 l3] 23 (0, 0)) w4 := hp4
            try simp only [Act.put, List.setIfInBounds_toArray, List.set_cons_succ, List.set_cons_zero]
            have HB4 : Hid (Bx w [(w.heap.size, .cells #[.int .i64 l1, .int .i64 b, .int .i64 c] 23 (0, 0)), (w.heap.size + 1, .cells #[.int .i64 fl, .bool true, .int .i64 f2, .bool f3] 25 (0, 0)), (w.heap.size + 2, .cells #[.int .i64 l1, .int .i64 l2, .int .i64 l3] 23 (0, 0))] w4) := Lib.hid (HB3.out.ofPut (by omega) hp4 (by simp only [List.mem_cons, List.not_mem_nil, or_false]; rintro p (rfl | rfl | rfl) <;> simp <;> omega))
            clear c0_0 c0_1 c0_2 c1_0 c1_1 hp4 HB3 q0 q1 q2
            go_wp2_with fail
            exact bodyPost_ret (results_row_tmp2 Tryd.results12 _ _ _ _ _ (0, 0) _ rfl HB4.out.r2 Tryd.underlying23 rfl (by kernel_rfl)) rfl (⟨rfl, HB4.out.below⟩)
end Go.Proofs.YtcbmpcnanknncaaDoor
