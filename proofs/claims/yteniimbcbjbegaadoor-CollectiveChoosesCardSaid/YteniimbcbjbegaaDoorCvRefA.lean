/- The reference's small functions of stage 11. No statement of the seat is proved here. -/
import Derived.Test.YteniimbcbjbegaaDoorCvChoose
import Derived.Test.YteniimbcbjbegaaDoorBxn
namespace Go.Proofs.YteniimbcbjbegaaDoor
open Go.RowKit

/-- What the reference's sweeping answers. -/
def swpR (dir back : Nat) (car same other ahead behind : Bool) : Cv.Ch × Bool :=
  if ((car || same) && (same || ahead)) = true then (Cv.openC dir, true) else if (car && (other || behind)) = true then (Cv.openC back, true) else if car = true then (Cv.openC 0, true) else if ahead = true then (Cv.moveC dir, true) else (⟨0, 0, 0⟩, false)
def turR (back : Nat) (other behind : Bool) : Cv.Ch := if other = true then Cv.openC back else if behind = true then Cv.moveC back else ⟨0, 0, 0⟩
set_option maxHeartbeats 1000000 in
theorem refIsSweep_any (d o : Int) (w : World) :
    Calls Tryd.prog 22 #[.agg #[.int .i64 d, .int .i64 o]] w fun ee w' => ee = .returned (.bool (isSw d o)) ∧ Below w.heap.size w w' := by
  by_cases h1 : 0 ≤ d
  · by_cases h2 : d ≤ 2
    · by_cases h3 : 0 ≤ o
      · by_cases h4 : o ≤ 7
        · rw [show isSw d o = true by unfold isSw; rw [show decide (0 ≤ d) = true from decide_eq_true h1, show decide (d ≤ 2) = true from decide_eq_true h2, show decide (0 ≤ o) = true from decide_eq_true h3, show decide (o ≤ 7) = true from decide_eq_true h4]; simp]
          go_enter Tryd.func22, Tryd.ntmps22
          go_wp2_with fail
          go_ret
          exact ⟨rfl, by go_grown⟩
        · rw [show isSw d o = false by unfold isSw; rw [show decide (0 ≤ d) = true from decide_eq_true h1, show decide (d ≤ 2) = true from decide_eq_true h2, show decide (0 ≤ o) = true from decide_eq_true h3, show decide (o ≤ 7) = false from decide_eq_false h4]; simp]
          go_enter Tryd.func22, Tryd.ntmps22
          go_wp2_with fail
          go_ret
          exact ⟨rfl, by go_grown⟩
      · rw [show isSw d o = false by unfold isSw; rw [show decide (0 ≤ d) = true from decide_eq_true h1, show decide (d ≤ 2) = true from decide_eq_true h2, show decide (0 ≤ o) = false from decide_eq_false h3]; simp]
        go_enter Tryd.func22, Tryd.ntmps22
        go_wp2_with fail
        go_ret
        exact ⟨rfl, by go_grown⟩
    · rw [show isSw d o = false by unfold isSw; rw [show decide (0 ≤ d) = true from decide_eq_true h1, show decide (d ≤ 2) = false from decide_eq_false h2]; simp]
      go_enter Tryd.func22, Tryd.ntmps22
      go_wp2_with fail
      go_ret
      exact ⟨rfl, by go_grown⟩
  · rw [show isSw d o = false by unfold isSw; rw [show decide (0 ≤ d) = false from decide_eq_false h1]; simp]
    go_enter Tryd.func22, Tryd.ntmps22
    go_wp2_with fail
    go_ret
    exact ⟨rfl, by go_grown⟩
set_option maxHeartbeats 1000000 in
theorem refOpenC_any (k : Nat) (w : World) :
    Calls Tryd.prog 30 #[.int .i64 (k : Int)] w fun ee w' => ee = .returned ((Cv.openC k).agg) ∧ Below w.heap.size w w' := by
  have HB0 := Lib.hid (bxs1 w (.cells #[.int .i64 0, .int .i64 0, .int .i64 0] 38))
  go_enter Tryd.func30, Tryd.ntmps30
  go_wp2_with (with_reducible show wpList _ _ _ (Oper.mk _ (.store 38 _ _) _ _ _ _ :: _) _ _; refine Hid.out ?_)
  refine Lib.hid ?_
  refine wpList_put rfl 38 _ _ rfl (w.heap.size) #[.int .i64 3, .int .i64 (k : Int), .int .i64 (k : Int)] _ 38 rfl rfl HB0.out.r0 (by kernel_rfl) rfl (by kernel_rfl) ?_
  intro w1 hr1 hg1
  have HB1 : Hid (Bx w [(w.heap.size, .cells #[.int .i64 3, .int .i64 (k : Int), .int .i64 (k : Int)] 38 (0, 0))] w1) := Lib.hid (HB0.out.put (by omega) hg1.out hr1.out (by simp only [List.mem_cons, List.not_mem_nil, or_false]; rintro p rfl <;> simp <;> omega))
  clear hr1 hg1 HB0
  go_wp2_with fail
  exact bodyPost_ret (results_cell_row Tryd.results30 _ _ _ _ _ (0, 0) _ rfl (HB1.out.r0) Tryd.underlying38 rfl (by kernel_rfl)) rfl (⟨rfl, HB1.out.below⟩)
set_option maxHeartbeats 1000000 in
theorem refMoveC_any (k : Nat) (w : World) (hk : k < 3) :
    Calls Tryd.prog 31 #[.int .i64 (k : Int)] w fun ee w' => ee = .returned ((Cv.moveC k).agg) ∧ Below w.heap.size w w' := by
  rcases (show k = 0 ∨ k = 1 ∨ k = 2 by omega) with rfl | rfl | rfl
  · have HB0 := Lib.hid (bxs1 w (.cells #[.int .i64 0, .int .i64 0, .int .i64 0] 38))
    go_enter Tryd.func31, Tryd.ntmps31
    go_wp2_with (with_reducible show wpList _ _ _ (Oper.mk _ (.store 38 _ _) _ _ _ _ :: _) _ _; refine Hid.out ?_)
    refine Lib.hid ?_
    refine wpList_put rfl 38 _ _ rfl (w.heap.size) #[.int .i64 0, .int .i64 0, .int .i64 0] _ 38 rfl rfl HB0.out.r0 (by kernel_rfl) rfl (by kernel_rfl) ?_
    intro w1 hr1 hg1
    have HB1 : Hid (Bx w [(w.heap.size, .cells #[.int .i64 0, .int .i64 0, .int .i64 0] 38 (0, 0))] w1) := Lib.hid (HB0.out.put (by omega) hg1.out hr1.out (by simp only [List.mem_cons, List.not_mem_nil, or_false]; rintro p rfl <;> simp <;> omega))
    clear hr1 hg1 HB0
    go_wp2_with fail
    exact bodyPost_ret (results_cell_row Tryd.results31 _ _ _ _ _ (0, 0) _ rfl (HB1.out.r0) Tryd.underlying38 rfl (by kernel_rfl)) rfl (⟨rfl, HB1.out.below⟩)
  · have HB0 := Lib.hid (bxs1 w (.cells #[.int .i64 0, .int .i64 0, .int .i64 0] 38))
    go_enter Tryd.func31, Tryd.ntmps31
    go_wp2_with (with_reducible show wpList _ _ _ (Oper.mk _ (.store 38 _ _) _ _ _ _ :: _) _ _; refine Hid.out ?_)
    refine Lib.hid ?_
    refine wpList_put rfl 38 _ _ rfl (w.heap.size) #[.int .i64 1, .int .i64 1, .int .i64 0] _ 38 rfl rfl HB0.out.r0 (by kernel_rfl) rfl (by kernel_rfl) ?_
    intro w1 hr1 hg1
    have HB1 : Hid (Bx w [(w.heap.size, .cells #[.int .i64 1, .int .i64 1, .int .i64 0] 38 (0, 0))] w1) := Lib.hid (HB0.out.put (by omega) hg1.out hr1.out (by simp only [List.mem_cons, List.not_mem_nil, or_false]; rintro p rfl <;> simp <;> omega))
    clear hr1 hg1 HB0
    go_wp2_with fail
    exact bodyPost_ret (results_cell_row Tryd.results31 _ _ _ _ _ (0, 0) _ rfl (HB1.out.r0) Tryd.underlying38 rfl (by kernel_rfl)) rfl (⟨rfl, HB1.out.below⟩)
  · have HB0 := Lib.hid (bxs1 w (.cells #[.int .i64 0, .int .i64 0, .int .i64 0] 38))
    go_enter Tryd.func31, Tryd.ntmps31
    go_wp2_with (with_reducible show wpList _ _ _ (Oper.mk _ (.store 38 _ _) _ _ _ _ :: _) _ _; refine Hid.out ?_)
    refine Lib.hid ?_
    refine wpList_put rfl 38 _ _ rfl (w.heap.size) #[.int .i64 2, .int .i64 2, .int .i64 0] _ 38 rfl rfl HB0.out.r0 (by kernel_rfl) rfl (by kernel_rfl) ?_
    intro w1 hr1 hg1
    have HB1 : Hid (Bx w [(w.heap.size, .cells #[.int .i64 2, .int .i64 2, .int .i64 0] 38 (0, 0))] w1) := Lib.hid (HB0.out.put (by omega) hg1.out hr1.out (by simp only [List.mem_cons, List.not_mem_nil, or_false]; rintro p rfl <;> simp <;> omega))
    clear hr1 hg1 HB0
    go_wp2_with fail
    exact bodyPost_ret (results_cell_row Tryd.results31 _ _ _ _ _ (0, 0) _ rfl (HB1.out.r0) Tryd.underlying38 rfl (by kernel_rfl)) rfl (⟨rfl, HB1.out.below⟩)
set_option maxHeartbeats 2000000 in
theorem refSweeping_any (dir back : Nat) (car same other ahead behind : Bool) (w : World) (hd : dir < 3) :
    Calls Tryd.prog 28 #[.int .i64 (dir : Int), .int .i64 (back : Int), .bool car, .bool same, .bool other, .bool ahead, .bool behind] w fun ee w' => ee = .returned (.tuple #[(swpR dir back car same other ahead behind).1.agg, .bool (swpR dir back car same other ahead behind).2]) ∧ Below w.heap.size w w' := by
  cases same
  · cases car
    · cases ahead
      · rw [show swpR _ _ _ _ _ _ _ = (⟨0, 0, 0⟩, false) by simp [swpR]]
        have HB0 := Lib.hid (bxs1 w (.cells #[.int .i64 0, .int .i64 0, .int .i64 0] 38))
        go_enter Tryd.func28, Tryd.ntmps28
        go_wp2_with (with_reducible show wpList _ _ _ (Oper.mk _ (.store 38 _ _) _ _ _ _ :: _) _ _; refine Hid.out ?_)
        refine Lib.hid ?_
        refine wpList_put rfl 38 _ _ rfl (w.heap.size) #[.int .i64 0, .int .i64 0, .int .i64 0] _ 38 rfl rfl HB0.out.r0 (by kernel_rfl) rfl (by kernel_rfl) ?_
        intro w1 hr1 hg1
        have HB1 : Hid (Bx w [(w.heap.size, .cells #[.int .i64 0, .int .i64 0, .int .i64 0] 38 (0, 0))] w1) := Lib.hid (HB0.out.put (by omega) hg1.out hr1.out (by simp only [List.mem_cons, List.not_mem_nil, or_false]; rintro p rfl <;> simp <;> omega))
        clear hr1 hg1 HB0
        go_wp2_with fail
        exact bodyPost_ret (results_row_tmp Tryd.results28 _ _ _ _ _ (0, 0) _ rfl HB1.out.r0 Tryd.underlying38 rfl (by kernel_rfl)) rfl (⟨rfl, HB1.out.below⟩)
      · rw [show swpR _ _ _ _ _ _ _ = (Cv.moveC dir, true) by simp [swpR]]
        have F := Lib.hid (fun wx => refMoveC_any dir wx hd)
        simp only [Cv.Ch.agg, Cv.moveC] at F
        have HB0 := Lib.hid (bxs1 w (.cells #[.int .i64 0, .int .i64 0, .int .i64 0] 38))
        go_enter Tryd.func28, Tryd.ntmps28
        go_wp2_with fail
        refine (F.out _).mono ?_
        rintro e w1 ⟨rfl, hb1⟩
        have HB1 := Lib.hid (HB0.out.next hb1)
        clear hb1 HB0
        go_wp2_with (with_reducible show wpList _ _ _ (Oper.mk _ (.store 38 _ _) _ _ _ _ :: _) _ _; refine Hid.out ?_)
        refine Lib.hid ?_
        refine wpList_put rfl 38 _ _ rfl (w.heap.size) #[.int .i64 (dir : Int), .int .i64 (dir : Int), .int .i64 0] _ 38 rfl rfl HB1.out.r0 (by kernel_rfl) rfl (by kernel_rfl) ?_
        intro w2 hr2 hg2
        have HB2 : Hid (Bx w [(w.heap.size, .cells #[.int .i64 (dir : Int), .int .i64 (dir : Int), .int .i64 0] 38 (0, 0))] w2) := Lib.hid (HB1.out.put (by omega) hg2.out hr2.out (by simp only [List.mem_cons, List.not_mem_nil, or_false]; rintro p rfl <;> simp <;> omega))
        clear hr2 hg2 HB1
        go_wp2_with fail
        exact bodyPost_ret (results_row_tmp Tryd.results28 _ _ _ _ _ (0, 0) _ rfl HB2.out.r0 Tryd.underlying38 rfl (by kernel_rfl)) rfl (⟨rfl, HB2.out.below⟩)
    · cases ahead
      · cases other
        · cases behind
          · rw [show swpR _ _ _ _ _ _ _ = (Cv.openC 0, true) by simp [swpR]]
            have F := Lib.hid (fun wx => refOpenC_any 0 wx)
            simp only [Cv.Ch.agg, Cv.openC] at F
            have HB0 := Lib.hid (bxs1 w (.cells #[.int .i64 0, .int .i64 0, .int .i64 0] 38))
            go_enter Tryd.func28, Tryd.ntmps28
            go_wp2_with fail
            refine (F.out _).mono ?_
            rintro e w1 ⟨rfl, hb1⟩
            have HB1 := Lib.hid (HB0.out.next hb1)
            clear hb1 HB0
            go_wp2_with (with_reducible show wpList _ _ _ (Oper.mk _ (.store 38 _ _) _ _ _ _ :: _) _ _; refine Hid.out ?_)
            refine Lib.hid ?_
            refine wpList_put rfl 38 _ _ rfl (w.heap.size) #[.int .i64 3, .int .i64 0, .int .i64 0] _ 38 rfl rfl HB1.out.r0 (by kernel_rfl) rfl (by kernel_rfl) ?_
            intro w2 hr2 hg2
            have HB2 : Hid (Bx w [(w.heap.size, .cells #[.int .i64 3, .int .i64 0, .int .i64 0] 38 (0, 0))] w2) := Lib.hid (HB1.out.put (by omega) hg2.out hr2.out (by simp only [List.mem_cons, List.not_mem_nil, or_false]; rintro p rfl <;> simp <;> omega))
            clear hr2 hg2 HB1
            go_wp2_with fail
            exact bodyPost_ret (results_row_tmp Tryd.results28 _ _ _ _ _ (0, 0) _ rfl HB2.out.r0 Tryd.underlying38 rfl (by kernel_rfl)) rfl (⟨rfl, HB2.out.below⟩)
          · rw [show swpR _ _ _ _ _ _ _ = (Cv.openC back, true) by simp [swpR]]
            have F := Lib.hid (fun wx => refOpenC_any back wx)
            simp only [Cv.Ch.agg, Cv.openC] at F
            have HB0 := Lib.hid (bxs1 w (.cells #[.int .i64 0, .int .i64 0, .int .i64 0] 38))
            go_enter Tryd.func28, Tryd.ntmps28
            go_wp2_with fail
            refine (F.out _).mono ?_
            rintro e w1 ⟨rfl, hb1⟩
            have HB1 := Lib.hid (HB0.out.next hb1)
            clear hb1 HB0
            go_wp2_with (with_reducible show wpList _ _ _ (Oper.mk _ (.store 38 _ _) _ _ _ _ :: _) _ _; refine Hid.out ?_)
            refine Lib.hid ?_
            refine wpList_put rfl 38 _ _ rfl (w.heap.size) #[.int .i64 3, .int .i64 (back : Int), .int .i64 (back : Int)] _ 38 rfl rfl HB1.out.r0 (by kernel_rfl) rfl (by kernel_rfl) ?_
            intro w2 hr2 hg2
            have HB2 : Hid (Bx w [(w.heap.size, .cells #[.int .i64 3, .int .i64 (back : Int), .int .i64 (back : Int)] 38 (0, 0))] w2) := Lib.hid (HB1.out.put (by omega) hg2.out hr2.out (by simp only [List.mem_cons, List.not_mem_nil, or_false]; rintro p rfl <;> simp <;> omega))
            clear hr2 hg2 HB1
            go_wp2_with fail
            exact bodyPost_ret (results_row_tmp Tryd.results28 _ _ _ _ _ (0, 0) _ rfl HB2.out.r0 Tryd.underlying38 rfl (by kernel_rfl)) rfl (⟨rfl, HB2.out.below⟩)
        · rw [show swpR _ _ _ _ _ _ _ = (Cv.openC back, true) by simp [swpR]]
          have F := Lib.hid (fun wx => refOpenC_any back wx)
          simp only [Cv.Ch.agg, Cv.openC] at F
          have HB0 := Lib.hid (bxs1 w (.cells #[.int .i64 0, .int .i64 0, .int .i64 0] 38))
          go_enter Tryd.func28, Tryd.ntmps28
          go_wp2_with fail
          refine (F.out _).mono ?_
          rintro e w1 ⟨rfl, hb1⟩
          have HB1 := Lib.hid (HB0.out.next hb1)
          clear hb1 HB0
          go_wp2_with (with_reducible show wpList _ _ _ (Oper.mk _ (.store 38 _ _) _ _ _ _ :: _) _ _; refine Hid.out ?_)
          refine Lib.hid ?_
          refine wpList_put rfl 38 _ _ rfl (w.heap.size) #[.int .i64 3, .int .i64 (back : Int), .int .i64 (back : Int)] _ 38 rfl rfl HB1.out.r0 (by kernel_rfl) rfl (by kernel_rfl) ?_
          intro w2 hr2 hg2
          have HB2 : Hid (Bx w [(w.heap.size, .cells #[.int .i64 3, .int .i64 (back : Int), .int .i64 (back : Int)] 38 (0, 0))] w2) := Lib.hid (HB1.out.put (by omega) hg2.out hr2.out (by simp only [List.mem_cons, List.not_mem_nil, or_false]; rintro p rfl <;> simp <;> omega))
          clear hr2 hg2 HB1
          go_wp2_with fail
          exact bodyPost_ret (results_row_tmp Tryd.results28 _ _ _ _ _ (0, 0) _ rfl HB2.out.r0 Tryd.underlying38 rfl (by kernel_rfl)) rfl (⟨rfl, HB2.out.below⟩)
      · rw [show swpR _ _ _ _ _ _ _ = (Cv.openC dir, true) by simp [swpR]]
        have F := Lib.hid (fun wx => refOpenC_any dir wx)
        simp only [Cv.Ch.agg, Cv.openC] at F
        have HB0 := Lib.hid (bxs1 w (.cells #[.int .i64 0, .int .i64 0, .int .i64 0] 38))
        go_enter Tryd.func28, Tryd.ntmps28
        go_wp2_with fail
        refine (F.out _).mono ?_
        rintro e w1 ⟨rfl, hb1⟩
        have HB1 := Lib.hid (HB0.out.next hb1)
        clear hb1 HB0
        go_wp2_with (with_reducible show wpList _ _ _ (Oper.mk _ (.store 38 _ _) _ _ _ _ :: _) _ _; refine Hid.out ?_)
        refine Lib.hid ?_
        refine wpList_put rfl 38 _ _ rfl (w.heap.size) #[.int .i64 3, .int .i64 (dir : Int), .int .i64 (dir : Int)] _ 38 rfl rfl HB1.out.r0 (by kernel_rfl) rfl (by kernel_rfl) ?_
        intro w2 hr2 hg2
        have HB2 : Hid (Bx w [(w.heap.size, .cells #[.int .i64 3, .int .i64 (dir : Int), .int .i64 (dir : Int)] 38 (0, 0))] w2) := Lib.hid (HB1.out.put (by omega) hg2.out hr2.out (by simp only [List.mem_cons, List.not_mem_nil, or_false]; rintro p rfl <;> simp <;> omega))
        clear hr2 hg2 HB1
        go_wp2_with fail
        exact bodyPost_ret (results_row_tmp Tryd.results28 _ _ _ _ _ (0, 0) _ rfl HB2.out.r0 Tryd.underlying38 rfl (by kernel_rfl)) rfl (⟨rfl, HB2.out.below⟩)
  · cases car
    · rw [show swpR _ _ _ _ _ _ _ = (Cv.openC dir, true) by simp [swpR]]
      have F := Lib.hid (fun wx => refOpenC_any dir wx)
      simp only [Cv.Ch.agg, Cv.openC] at F
      have HB0 := Lib.hid (bxs1 w (.cells #[.int .i64 0, .int .i64 0, .int .i64 0] 38))
      go_enter Tryd.func28, Tryd.ntmps28
      go_wp2_with fail
      refine (F.out _).mono ?_
      rintro e w1 ⟨rfl, hb1⟩
      have HB1 := Lib.hid (HB0.out.next hb1)
      clear hb1 HB0
      go_wp2_with (with_reducible show wpList _ _ _ (Oper.mk _ (.store 38 _ _) _ _ _ _ :: _) _ _; refine Hid.out ?_)
      refine Lib.hid ?_
      refine wpList_put rfl 38 _ _ rfl (w.heap.size) #[.int .i64 3, .int .i64 (dir : Int), .int .i64 (dir : Int)] _ 38 rfl rfl HB1.out.r0 (by kernel_rfl) rfl (by kernel_rfl) ?_
      intro w2 hr2 hg2
      have HB2 : Hid (Bx w [(w.heap.size, .cells #[.int .i64 3, .int .i64 (dir : Int), .int .i64 (dir : Int)] 38 (0, 0))] w2) := Lib.hid (HB1.out.put (by omega) hg2.out hr2.out (by simp only [List.mem_cons, List.not_mem_nil, or_false]; rintro p rfl <;> simp <;> omega))
      clear hr2 hg2 HB1
      go_wp2_with fail
      exact bodyPost_ret (results_row_tmp Tryd.results28 _ _ _ _ _ (0, 0) _ rfl HB2.out.r0 Tryd.underlying38 rfl (by kernel_rfl)) rfl (⟨rfl, HB2.out.below⟩)
    · rw [show swpR _ _ _ _ _ _ _ = (Cv.openC dir, true) by simp [swpR]]
      have F := Lib.hid (fun wx => refOpenC_any dir wx)
      simp only [Cv.Ch.agg, Cv.openC] at F
      have HB0 := Lib.hid (bxs1 w (.cells #[.int .i64 0, .int .i64 0, .int .i64 0] 38))
      go_enter Tryd.func28, Tryd.ntmps28
      go_wp2_with fail
      refine (F.out _).mono ?_
      rintro e w1 ⟨rfl, hb1⟩
      have HB1 := Lib.hid (HB0.out.next hb1)
      clear hb1 HB0
      go_wp2_with (with_reducible show wpList _ _ _ (Oper.mk _ (.store 38 _ _) _ _ _ _ :: _) _ _; refine Hid.out ?_)
      refine Lib.hid ?_
      refine wpList_put rfl 38 _ _ rfl (w.heap.size) #[.int .i64 3, .int .i64 (dir : Int), .int .i64 (dir : Int)] _ 38 rfl rfl HB1.out.r0 (by kernel_rfl) rfl (by kernel_rfl) ?_
      intro w2 hr2 hg2
      have HB2 : Hid (Bx w [(w.heap.size, .cells #[.int .i64 3, .int .i64 (dir : Int), .int .i64 (dir : Int)] 38 (0, 0))] w2) := Lib.hid (HB1.out.put (by omega) hg2.out hr2.out (by simp only [List.mem_cons, List.not_mem_nil, or_false]; rintro p rfl <;> simp <;> omega))
      clear hr2 hg2 HB1
      go_wp2_with fail
      exact bodyPost_ret (results_row_tmp Tryd.results28 _ _ _ _ _ (0, 0) _ rfl HB2.out.r0 Tryd.underlying38 rfl (by kernel_rfl)) rfl (⟨rfl, HB2.out.below⟩)
set_option maxHeartbeats 1000000 in
theorem refTurning_any (back : Nat) (other behind : Bool) (w : World) (hd : back < 3) :
    Calls Tryd.prog 29 #[.int .i64 (back : Int), .bool other, .bool behind] w fun ee w' => ee = .returned ((turR back other behind).agg) ∧ Below w.heap.size w w' := by
  cases other
  · cases behind
    · rw [show turR _ _ _ = ⟨0, 0, 0⟩ by simp [turR]]
      have HB0 := Lib.hid (bxs1 w (.cells #[.int .i64 0, .int .i64 0, .int .i64 0] 38))
      go_enter Tryd.func29, Tryd.ntmps29
      go_wp2_with (with_reducible show wpList _ _ _ (Oper.mk _ (.store 38 _ _) _ _ _ _ :: _) _ _; refine Hid.out ?_)
      refine Lib.hid ?_
      refine wpList_put rfl 38 _ _ rfl (w.heap.size) #[.int .i64 0, .int .i64 0, .int .i64 0] _ 38 rfl rfl HB0.out.r0 (by kernel_rfl) rfl (by kernel_rfl) ?_
      intro w1 hr1 hg1
      have HB1 : Hid (Bx w [(w.heap.size, .cells #[.int .i64 0, .int .i64 0, .int .i64 0] 38 (0, 0))] w1) := Lib.hid (HB0.out.put (by omega) hg1.out hr1.out (by simp only [List.mem_cons, List.not_mem_nil, or_false]; rintro p rfl <;> simp <;> omega))
      clear hr1 hg1 HB0
      go_wp2_with fail
      exact bodyPost_ret (results_cell_row Tryd.results29 _ _ _ _ _ (0, 0) _ rfl (HB1.out.r0) Tryd.underlying38 rfl (by kernel_rfl)) rfl (⟨rfl, HB1.out.below⟩)
    · rw [show turR _ _ _ = Cv.moveC back by simp [turR]]
      have F := Lib.hid (fun wx => refMoveC_any back wx hd)
      simp only [Cv.Ch.agg, Cv.moveC] at F
      have HB0 := Lib.hid (bxs1 w (.cells #[.int .i64 0, .int .i64 0, .int .i64 0] 38))
      go_enter Tryd.func29, Tryd.ntmps29
      go_wp2_with fail
      refine (F.out _).mono ?_
      rintro e w1 ⟨rfl, hb1⟩
      have HB1 := Lib.hid (HB0.out.next hb1)
      clear hb1 HB0
      go_wp2_with (with_reducible show wpList _ _ _ (Oper.mk _ (.store 38 _ _) _ _ _ _ :: _) _ _; refine Hid.out ?_)
      refine Lib.hid ?_
      refine wpList_put rfl 38 _ _ rfl (w.heap.size) #[.int .i64 (back : Int), .int .i64 (back : Int), .int .i64 0] _ 38 rfl rfl HB1.out.r0 (by kernel_rfl) rfl (by kernel_rfl) ?_
      intro w2 hr2 hg2
      have HB2 : Hid (Bx w [(w.heap.size, .cells #[.int .i64 (back : Int), .int .i64 (back : Int), .int .i64 0] 38 (0, 0))] w2) := Lib.hid (HB1.out.put (by omega) hg2.out hr2.out (by simp only [List.mem_cons, List.not_mem_nil, or_false]; rintro p rfl <;> simp <;> omega))
      clear hr2 hg2 HB1
      go_wp2_with fail
      exact bodyPost_ret (results_cell_row Tryd.results29 _ _ _ _ _ (0, 0) _ rfl (HB2.out.r0) Tryd.underlying38 rfl (by kernel_rfl)) rfl (⟨rfl, HB2.out.below⟩)
  · rw [show turR _ _ _ = Cv.openC back by simp [turR]]
    have F := Lib.hid (fun wx => refOpenC_any back wx)
    simp only [Cv.Ch.agg, Cv.openC] at F
    have HB0 := Lib.hid (bxs1 w (.cells #[.int .i64 0, .int .i64 0, .int .i64 0] 38))
    go_enter Tryd.func29, Tryd.ntmps29
    go_wp2_with fail
    refine (F.out _).mono ?_
    rintro e w1 ⟨rfl, hb1⟩
    have HB1 := Lib.hid (HB0.out.next hb1)
    clear hb1 HB0
    go_wp2_with (with_reducible show wpList _ _ _ (Oper.mk _ (.store 38 _ _) _ _ _ _ :: _) _ _; refine Hid.out ?_)
    refine Lib.hid ?_
    refine wpList_put rfl 38 _ _ rfl (w.heap.size) #[.int .i64 3, .int .i64 (back : Int), .int .i64 (back : Int)] _ 38 rfl rfl HB1.out.r0 (by kernel_rfl) rfl (by kernel_rfl) ?_
    intro w2 hr2 hg2
    have HB2 : Hid (Bx w [(w.heap.size, .cells #[.int .i64 3, .int .i64 (back : Int), .int .i64 (back : Int)] 38 (0, 0))] w2) := Lib.hid (HB1.out.put (by omega) hg2.out hr2.out (by simp only [List.mem_cons, List.not_mem_nil, or_false]; rintro p rfl <;> simp <;> omega))
    clear hr2 hg2 HB1
    go_wp2_with fail
    exact bodyPost_ret (results_cell_row Tryd.results29 _ _ _ _ _ (0, 0) _ rfl (HB2.out.r0) Tryd.underlying38 rfl (by kernel_rfl)) rfl (⟨rfl, HB2.out.below⟩)
end Go.Proofs.YteniimbcbjbegaaDoor
