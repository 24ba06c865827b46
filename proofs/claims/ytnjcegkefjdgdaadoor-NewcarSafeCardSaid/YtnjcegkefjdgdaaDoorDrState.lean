/- IsState, Late, Skip of doors. No statement of the seat is proved here. -/
import Derived.Test.YtnjcegkefjdgdaaDoorDrLeaf
namespace Go.Proofs.YtnjcegkefjdgdaaDoor
open Go.RowKit

set_option maxHeartbeats 2000000 in
theorem isState_any (a b c : Int) (d : Bool) (e : Int) (w : World) :
    Calls Tryd.prog 29 #[.agg #[.int .i64 a, .int .i64 b, .int .i64 c, .bool d, .int .i64 e]] w fun ee w' => ee = .returned (.bool (Dr.isB ⟨a, b, c, d, e⟩)) ∧ Below w.heap.size w w' := by
  by_cases h0 : a = 0
  · subst h0
    rw [show Dr.isB ⟨0, b, c, d, e⟩ = Dr.same ⟨0, b, c, d, e⟩ ⟨0, 0, 0, false, 0⟩ from rfl]
    have q := eqlDr 0 b c d e 0 0 0 false 0
    generalize Dr.same ⟨0, b, c, d, e⟩ ⟨0, 0, 0, false, 0⟩ = Q at *
    go_enter Tryd.func29, Tryd.ntmps29
    go_wp2_with fail
    go_ret
    exact ⟨rfl, by go_grown⟩
  · by_cases h1 : a = 1 ∨ a = 2 ∨ a = 3
    · have hB : Dr.isB ⟨a, b, c, d, e⟩ = (Dr.isCount b && Dr.isCount c && Dr.isCount e) := by rcases h1 with rfl | rfl | rfl <;> simp [Dr.isB]
      rw [hB]
      clear hB h0
      have F1 := Lib.hid (fun wx => isCount_any b wx)
      have F2 := Lib.hid (fun wx => isCount_any c wx)
      have F3 := Lib.hid (fun wx => isCount_any e wx)
      generalize Dr.isCount b = x at *
      generalize Dr.isCount c = y at *
      generalize Dr.isCount e = z at *
      rcases h1 with rfl | rfl | rfl
      · cases x
        · have HB0 := Lib.hid (bxs1 w (.cells #[.int .i64 1, .int .i64 b, .int .i64 c, .bool d, .int .i64 e] 33))
          go_enter Tryd.func29, Tryd.ntmps29
          go_wp2_with fail
          refine (F1.out _).mono ?_
          rintro e w1 ⟨rfl, hb1⟩
          have HB1 := Lib.hid (HB0.out.next hb1)
          clear hb1 HB0
          have c0_0 : w1.cell? ⟨w.heap.size, 0, none⟩ = some (.int .i64 1) := cell_of_row _ _ _ _ _ (0, 0) HB1.out.r0
          have c0_1 : w1.cell? ⟨w.heap.size, 1, none⟩ = some (.int .i64 b) := cell_of_row _ _ _ _ _ (0, 0) HB1.out.r0
          have c0_2 : w1.cell? ⟨w.heap.size, 2, none⟩ = some (.int .i64 c) := cell_of_row _ _ _ _ _ (0, 0) HB1.out.r0
          have c0_3 : w1.cell? ⟨w.heap.size, 3, none⟩ = some (.bool d) := cell_of_row _ _ _ _ _ (0, 0) HB1.out.r0
          have c0_4 : w1.cell? ⟨w.heap.size, 4, none⟩ = some (.int .i64 e) := cell_of_row _ _ _ _ _ (0, 0) HB1.out.r0
          go_wp2_with fail
          go_ret
          exact ⟨by simp, HB1.out.below⟩
        · cases y
          · have HB0 := Lib.hid (bxs1 w (.cells #[.int .i64 1, .int .i64 b, .int .i64 c, .bool d, .int .i64 e] 33))
            go_enter Tryd.func29, Tryd.ntmps29
            go_wp2_with fail
            refine (F1.out _).mono ?_
            rintro e w1 ⟨rfl, hb1⟩
            have HB1 := Lib.hid (HB0.out.next hb1)
            clear hb1 HB0
            have c0_0 : w1.cell? ⟨w.heap.size, 0, none⟩ = some (.int .i64 1) := cell_of_row _ _ _ _ _ (0, 0) HB1.out.r0
            have c0_1 : w1.cell? ⟨w.heap.size, 1, none⟩ = some (.int .i64 b) := cell_of_row _ _ _ _ _ (0, 0) HB1.out.r0
            have c0_2 : w1.cell? ⟨w.heap.size, 2, none⟩ = some (.int .i64 c) := cell_of_row _ _ _ _ _ (0, 0) HB1.out.r0
            have c0_3 : w1.cell? ⟨w.heap.size, 3, none⟩ = some (.bool d) := cell_of_row _ _ _ _ _ (0, 0) HB1.out.r0
            have c0_4 : w1.cell? ⟨w.heap.size, 4, none⟩ = some (.int .i64 e) := cell_of_row _ _ _ _ _ (0, 0) HB1.out.r0
            go_wp2_with fail
            refine (F2.out _).mono ?_
            rintro e w2 ⟨rfl, hb2⟩
            have HB2 := Lib.hid (HB1.out.next hb2)
            clear c0_0 c0_1 c0_2 c0_3 c0_4 hb2 HB1
            have c0_0 : w2.cell? ⟨w.heap.size, 0, none⟩ = some (.int .i64 1) := cell_of_row _ _ _ _ _ (0, 0) HB2.out.r0
            have c0_1 : w2.cell? ⟨w.heap.size, 1, none⟩ = some (.int .i64 b) := cell_of_row _ _ _ _ _ (0, 0) HB2.out.r0
            have c0_2 : w2.cell? ⟨w.heap.size, 2, none⟩ = some (.int .i64 c) := cell_of_row _ _ _ _ _ (0, 0) HB2.out.r0
            have c0_3 : w2.cell? ⟨w.heap.size, 3, none⟩ = some (.bool d) := cell_of_row _ _ _ _ _ (0, 0) HB2.out.r0
            have c0_4 : w2.cell? ⟨w.heap.size, 4, none⟩ = some (.int .i64 e) := cell_of_row _ _ _ _ _ (0, 0) HB2.out.r0
            go_wp2_with fail
            go_ret
            exact ⟨by simp, HB2.out.below⟩
          · have HB0 := Lib.hid (bxs1 w (.cells #[.int .i64 1, .int .i64 b, .int .i64 c, .bool d, .int .i64 e] 33))
            go_enter Tryd.func29, Tryd.ntmps29
            go_wp2_with fail
            refine (F1.out _).mono ?_
            rintro e w1 ⟨rfl, hb1⟩
            have HB1 := Lib.hid (HB0.out.next hb1)
            clear hb1 HB0
            have c0_0 : w1.cell? ⟨w.heap.size, 0, none⟩ = some (.int .i64 1) := cell_of_row _ _ _ _ _ (0, 0) HB1.out.r0
            have c0_1 : w1.cell? ⟨w.heap.size, 1, none⟩ = some (.int .i64 b) := cell_of_row _ _ _ _ _ (0, 0) HB1.out.r0
            have c0_2 : w1.cell? ⟨w.heap.size, 2, none⟩ = some (.int .i64 c) := cell_of_row _ _ _ _ _ (0, 0) HB1.out.r0
            have c0_3 : w1.cell? ⟨w.heap.size, 3, none⟩ = some (.bool d) := cell_of_row _ _ _ _ _ (0, 0) HB1.out.r0
            have c0_4 : w1.cell? ⟨w.heap.size, 4, none⟩ = some (.int .i64 e) := cell_of_row _ _ _ _ _ (0, 0) HB1.out.r0
            go_wp2_with fail
            refine (F2.out _).mono ?_
            rintro e w2 ⟨rfl, hb2⟩
            have HB2 := Lib.hid (HB1.out.next hb2)
            clear c0_0 c0_1 c0_2 c0_3 c0_4 hb2 HB1
            have c0_0 : w2.cell? ⟨w.heap.size, 0, none⟩ = some (.int .i64 1) := cell_of_row _ _ _ _ _ (0, 0) HB2.out.r0
            have c0_1 : w2.cell? ⟨w.heap.size, 1, none⟩ = some (.int .i64 b) := cell_of_row _ _ _ _ _ (0, 0) HB2.out.r0
            have c0_2 : w2.cell? ⟨w.heap.size, 2, none⟩ = some (.int .i64 c) := cell_of_row _ _ _ _ _ (0, 0) HB2.out.r0
            have c0_3 : w2.cell? ⟨w.heap.size, 3, none⟩ = some (.bool d) := cell_of_row _ _ _ _ _ (0, 0) HB2.out.r0
            have c0_4 : w2.cell? ⟨w.heap.size, 4, none⟩ = some (.int .i64 e) := cell_of_row _ _ _ _ _ (0, 0) HB2.out.r0
            go_wp2_with fail
            refine (F3.out _).mono ?_
            rintro e w3 ⟨rfl, hb3⟩
            have HB3 := Lib.hid (HB2.out.next hb3)
            clear c0_0 c0_1 c0_2 c0_3 c0_4 hb3 HB2
            have c0_0 : w3.cell? ⟨w.heap.size, 0, none⟩ = some (.int .i64 1) := cell_of_row _ _ _ _ _ (0, 0) HB3.out.r0
            have c0_1 : w3.cell? ⟨w.heap.size, 1, none⟩ = some (.int .i64 b) := cell_of_row _ _ _ _ _ (0, 0) HB3.out.r0
            have c0_2 : w3.cell? ⟨w.heap.size, 2, none⟩ = some (.int .i64 c) := cell_of_row _ _ _ _ _ (0, 0) HB3.out.r0
            have c0_3 : w3.cell? ⟨w.heap.size, 3, none⟩ = some (.bool d) := cell_of_row _ _ _ _ _ (0, 0) HB3.out.r0
            have c0_4 : w3.cell? ⟨w.heap.size, 4, none⟩ = some (.int .i64 e) := cell_of_row _ _ _ _ _ (0, 0) HB3.out.r0
            go_wp2_with fail
            go_ret
            exact ⟨by simp, HB3.out.below⟩
      · cases x
        · have HB0 := Lib.hid (bxs1 w (.cells #[.int .i64 2, .int .i64 b, .int .i64 c, .bool d, .int .i64 e] 33))
          go_enter Tryd.func29, Tryd.ntmps29
          go_wp2_with fail
          refine (F1.out _).mono ?_
          rintro e w1 ⟨rfl, hb1⟩
          have HB1 := Lib.hid (HB0.out.next hb1)
          clear hb1 HB0
          have c0_0 : w1.cell? ⟨w.heap.size, 0, none⟩ = some (.int .i64 2) := cell_of_row _ _ _ _ _ (0, 0) HB1.out.r0
          have c0_1 : w1.cell? ⟨w.heap.size, 1, none⟩ = some (.int .i64 b) := cell_of_row _ _ _ _ _ (0, 0) HB1.out.r0
          have c0_2 : w1.cell? ⟨w.heap.size, 2, none⟩ = some (.int .i64 c) := cell_of_row _ _ _ _ _ (0, 0) HB1.out.r0
          have c0_3 : w1.cell? ⟨w.heap.size, 3, none⟩ = some (.bool d) := cell_of_row _ _ _ _ _ (0, 0) HB1.out.r0
          have c0_4 : w1.cell? ⟨w.heap.size, 4, none⟩ = some (.int .i64 e) := cell_of_row _ _ _ _ _ (0, 0) HB1.out.r0
          go_wp2_with fail
          go_ret
          exact ⟨by simp, HB1.out.below⟩
        · cases y
          · have HB0 := Lib.hid (bxs1 w (.cells #[.int .i64 2, .int .i64 b, .int .i64 c, .bool d, .int .i64 e] 33))
            go_enter Tryd.func29, Tryd.ntmps29
            go_wp2_with fail
            refine (F1.out _).mono ?_
            rintro e w1 ⟨rfl, hb1⟩
            have HB1 := Lib.hid (HB0.out.next hb1)
            clear hb1 HB0
            have c0_0 : w1.cell? ⟨w.heap.size, 0, none⟩ = some (.int .i64 2) := cell_of_row _ _ _ _ _ (0, 0) HB1.out.r0
            have c0_1 : w1.cell? ⟨w.heap.size, 1, none⟩ = some (.int .i64 b) := cell_of_row _ _ _ _ _ (0, 0) HB1.out.r0
            have c0_2 : w1.cell? ⟨w.heap.size, 2, none⟩ = some (.int .i64 c) := cell_of_row _ _ _ _ _ (0, 0) HB1.out.r0
            have c0_3 : w1.cell? ⟨w.heap.size, 3, none⟩ = some (.bool d) := cell_of_row _ _ _ _ _ (0, 0) HB1.out.r0
            have c0_4 : w1.cell? ⟨w.heap.size, 4, none⟩ = some (.int .i64 e) := cell_of_row _ _ _ _ _ (0, 0) HB1.out.r0
            go_wp2_with fail
            refine (F2.out _).mono ?_
            rintro e w2 ⟨rfl, hb2⟩
            have HB2 := Lib.hid (HB1.out.next hb2)
            clear c0_0 c0_1 c0_2 c0_3 c0_4 hb2 HB1
            have c0_0 : w2.cell? ⟨w.heap.size, 0, none⟩ = some (.int .i64 2) := cell_of_row _ _ _ _ _ (0, 0) HB2.out.r0
            have c0_1 : w2.cell? ⟨w.heap.size, 1, none⟩ = some (.int .i64 b) := cell_of_row _ _ _ _ _ (0, 0) HB2.out.r0
            have c0_2 : w2.cell? ⟨w.heap.size, 2, none⟩ = some (.int .i64 c) := cell_of_row _ _ _ _ _ (0, 0) HB2.out.r0
            have c0_3 : w2.cell? ⟨w.heap.size, 3, none⟩ = some (.bool d) := cell_of_row _ _ _ _ _ (0, 0) HB2.out.r0
            have c0_4 : w2.cell? ⟨w.heap.size, 4, none⟩ = some (.int .i64 e) := cell_of_row _ _ _ _ _ (0, 0) HB2.out.r0
            go_wp2_with fail
            go_ret
            exact ⟨by simp, HB2.out.below⟩
          · have HB0 := Lib.hid (bxs1 w (.cells #[.int .i64 2, .int .i64 b, .int .i64 c, .bool d, .int .i64 e] 33))
            go_enter Tryd.func29, Tryd.ntmps29
            go_wp2_with fail
            refine (F1.out _).mono ?_
            rintro e w1 ⟨rfl, hb1⟩
            have HB1 := Lib.hid (HB0.out.next hb1)
            clear hb1 HB0
            have c0_0 : w1.cell? ⟨w.heap.size, 0, none⟩ = some (.int .i64 2) := cell_of_row _ _ _ _ _ (0, 0) HB1.out.r0
            have c0_1 : w1.cell? ⟨w.heap.size, 1, none⟩ = some (.int .i64 b) := cell_of_row _ _ _ _ _ (0, 0) HB1.out.r0
            have c0_2 : w1.cell? ⟨w.heap.size, 2, none⟩ = some (.int .i64 c) := cell_of_row _ _ _ _ _ (0, 0) HB1.out.r0
            have c0_3 : w1.cell? ⟨w.heap.size, 3, none⟩ = some (.bool d) := cell_of_row _ _ _ _ _ (0, 0) HB1.out.r0
            have c0_4 : w1.cell? ⟨w.heap.size, 4, none⟩ = some (.int .i64 e) := cell_of_row _ _ _ _ _ (0, 0) HB1.out.r0
            go_wp2_with fail
            refine (F2.out _).mono ?_
            rintro e w2 ⟨rfl, hb2⟩
            have HB2 := Lib.hid (HB1.out.next hb2)
            clear c0_0 c0_1 c0_2 c0_3 c0_4 hb2 HB1
            have c0_0 : w2.cell? ⟨w.heap.size, 0, none⟩ = some (.int .i64 2) := cell_of_row _ _ _ _ _ (0, 0) HB2.out.r0
            have c0_1 : w2.cell? ⟨w.heap.size, 1, none⟩ = some (.int .i64 b) := cell_of_row _ _ _ _ _ (0, 0) HB2.out.r0
            have c0_2 : w2.cell? ⟨w.heap.size, 2, none⟩ = some (.int .i64 c) := cell_of_row _ _ _ _ _ (0, 0) HB2.out.r0
            have c0_3 : w2.cell? ⟨w.heap.size, 3, none⟩ = some (.bool d) := cell_of_row _ _ _ _ _ (0, 0) HB2.out.r0
            have c0_4 : w2.cell? ⟨w.heap.size, 4, none⟩ = some (.int .i64 e) := cell_of_row _ _ _ _ _ (0, 0) HB2.out.r0
            go_wp2_with fail
            refine (F3.out _).mono ?_
            rintro e w3 ⟨rfl, hb3⟩
            have HB3 := Lib.hid (HB2.out.next hb3)
            clear c0_0 c0_1 c0_2 c0_3 c0_4 hb3 HB2
            have c0_0 : w3.cell? ⟨w.heap.size, 0, none⟩ = some (.int .i64 2) := cell_of_row _ _ _ _ _ (0, 0) HB3.out.r0
            have c0_1 : w3.cell? ⟨w.heap.size, 1, none⟩ = some (.int .i64 b) := cell_of_row _ _ _ _ _ (0, 0) HB3.out.r0
            have c0_2 : w3.cell? ⟨w.heap.size, 2, none⟩ = some (.int .i64 c) := cell_of_row _ _ _ _ _ (0, 0) HB3.out.r0
            have c0_3 : w3.cell? ⟨w.heap.size, 3, none⟩ = some (.bool d) := cell_of_row _ _ _ _ _ (0, 0) HB3.out.r0
            have c0_4 : w3.cell? ⟨w.heap.size, 4, none⟩ = some (.int .i64 e) := cell_of_row _ _ _ _ _ (0, 0) HB3.out.r0
            go_wp2_with fail
            go_ret
            exact ⟨by simp, HB3.out.below⟩
      · cases x
        · have HB0 := Lib.hid (bxs1 w (.cells #[.int .i64 3, .int .i64 b, .int .i64 c, .bool d, .int .i64 e] 33))
          go_enter Tryd.func29, Tryd.ntmps29
          go_wp2_with fail
          refine (F1.out _).mono ?_
          rintro e w1 ⟨rfl, hb1⟩
          have HB1 := Lib.hid (HB0.out.next hb1)
          clear hb1 HB0
          have c0_0 : w1.cell? ⟨w.heap.size, 0, none⟩ = some (.int .i64 3) := cell_of_row _ _ _ _ _ (0, 0) HB1.out.r0
          have c0_1 : w1.cell? ⟨w.heap.size, 1, none⟩ = some (.int .i64 b) := cell_of_row _ _ _ _ _ (0, 0) HB1.out.r0
          have c0_2 : w1.cell? ⟨w.heap.size, 2, none⟩ = some (.int .i64 c) := cell_of_row _ _ _ _ _ (0, 0) HB1.out.r0
          have c0_3 : w1.cell? ⟨w.heap.size, 3, none⟩ = some (.bool d) := cell_of_row _ _ _ _ _ (0, 0) HB1.out.r0
          have c0_4 : w1.cell? ⟨w.heap.size, 4, none⟩ = some (.int .i64 e) := cell_of_row _ _ _ _ _ (0, 0) HB1.out.r0
          go_wp2_with fail
          go_ret
          exact ⟨by simp, HB1.out.below⟩
        · cases y
          · have HB0 := Lib.hid (bxs1 w (.cells #[.int .i64 3, .int .i64 b, .int .i64 c, .bool d, .int .i64 e] 33))
            go_enter Tryd.func29, Tryd.ntmps29
            go_wp2_with fail
            refine (F1.out _).mono ?_
            rintro e w1 ⟨rfl, hb1⟩
            have HB1 := Lib.hid (HB0.out.next hb1)
            clear hb1 HB0
            have c0_0 : w1.cell? ⟨w.heap.size, 0, none⟩ = some (.int .i64 3) := cell_of_row _ _ _ _ _ (0, 0) HB1.out.r0
            have c0_1 : w1.cell? ⟨w.heap.size, 1, none⟩ = some (.int .i64 b) := cell_of_row _ _ _ _ _ (0, 0) HB1.out.r0
            have c0_2 : w1.cell? ⟨w.heap.size, 2, none⟩ = some (.int .i64 c) := cell_of_row _ _ _ _ _ (0, 0) HB1.out.r0
            have c0_3 : w1.cell? ⟨w.heap.size, 3, none⟩ = some (.bool d) := cell_of_row _ _ _ _ _ (0, 0) HB1.out.r0
            have c0_4 : w1.cell? ⟨w.heap.size, 4, none⟩ = some (.int .i64 e) := cell_of_row _ _ _ _ _ (0, 0) HB1.out.r0
            go_wp2_with fail
            refine (F2.out _).mono ?_
            rintro e w2 ⟨rfl, hb2⟩
            have HB2 := Lib.hid (HB1.out.next hb2)
            clear c0_0 c0_1 c0_2 c0_3 c0_4 hb2 HB1
            have c0_0 : w2.cell? ⟨w.heap.size, 0, none⟩ = some (.int .i64 3) := cell_of_row _ _ _ _ _ (0, 0) HB2.out.r0
            have c0_1 : w2.cell? ⟨w.heap.size, 1, none⟩ = some (.int .i64 b) := cell_of_row _ _ _ _ _ (0, 0) HB2.out.r0
            have c0_2 : w2.cell? ⟨w.heap.size, 2, none⟩ = some (.int .i64 c) := cell_of_row _ _ _ _ _ (0, 0) HB2.out.r0
            have c0_3 : w2.cell? ⟨w.heap.size, 3, none⟩ = some (.bool d) := cell_of_row _ _ _ _ _ (0, 0) HB2.out.r0
            have c0_4 : w2.cell? ⟨w.heap.size, 4, none⟩ = some (.int .i64 e) := cell_of_row _ _ _ _ _ (0, 0) HB2.out.r0
            go_wp2_with fail
            go_ret
            exact ⟨by simp, HB2.out.below⟩
          · have HB0 := Lib.hid (bxs1 w (.cells #[.int .i64 3, .int .i64 b, .int .i64 c, .bool d, .int .i64 e] 33))
            go_enter Tryd.func29, Tryd.ntmps29
            go_wp2_with fail
            refine (F1.out _).mono ?_
            rintro e w1 ⟨rfl, hb1⟩
            have HB1 := Lib.hid (HB0.out.next hb1)
            clear hb1 HB0
            have c0_0 : w1.cell? ⟨w.heap.size, 0, none⟩ = some (.int .i64 3) := cell_of_row _ _ _ _ _ (0, 0) HB1.out.r0
            have c0_1 : w1.cell? ⟨w.heap.size, 1, none⟩ = some (.int .i64 b) := cell_of_row _ _ _ _ _ (0, 0) HB1.out.r0
            have c0_2 : w1.cell? ⟨w.heap.size, 2, none⟩ = some (.int .i64 c) := cell_of_row _ _ _ _ _ (0, 0) HB1.out.r0
            have c0_3 : w1.cell? ⟨w.heap.size, 3, none⟩ = some (.bool d) := cell_of_row _ _ _ _ _ (0, 0) HB1.out.r0
            have c0_4 : w1.cell? ⟨w.heap.size, 4, none⟩ = some (.int .i64 e) := cell_of_row _ _ _ _ _ (0, 0) HB1.out.r0
            go_wp2_with fail
            refine (F2.out _).mono ?_
            rintro e w2 ⟨rfl, hb2⟩
            have HB2 := Lib.hid (HB1.out.next hb2)
            clear c0_0 c0_1 c0_2 c0_3 c0_4 hb2 HB1
            have c0_0 : w2.cell? ⟨w.heap.size, 0, none⟩ = some (.int .i64 3) := cell_of_row _ _ _ _ _ (0, 0) HB2.out.r0
            have c0_1 : w2.cell? ⟨w.heap.size, 1, none⟩ = some (.int .i64 b) := cell_of_row _ _ _ _ _ (0, 0) HB2.out.r0
            have c0_2 : w2.cell? ⟨w.heap.size, 2, none⟩ = some (.int .i64 c) := cell_of_row _ _ _ _ _ (0, 0) HB2.out.r0
            have c0_3 : w2.cell? ⟨w.heap.size, 3, none⟩ = some (.bool d) := cell_of_row _ _ _ _ _ (0, 0) HB2.out.r0
            have c0_4 : w2.cell? ⟨w.heap.size, 4, none⟩ = some (.int .i64 e) := cell_of_row _ _ _ _ _ (0, 0) HB2.out.r0
            go_wp2_with fail
            refine (F3.out _).mono ?_
            rintro e w3 ⟨rfl, hb3⟩
            have HB3 := Lib.hid (HB2.out.next hb3)
            clear c0_0 c0_1 c0_2 c0_3 c0_4 hb3 HB2
            have c0_0 : w3.cell? ⟨w.heap.size, 0, none⟩ = some (.int .i64 3) := cell_of_row _ _ _ _ _ (0, 0) HB3.out.r0
            have c0_1 : w3.cell? ⟨w.heap.size, 1, none⟩ = some (.int .i64 b) := cell_of_row _ _ _ _ _ (0, 0) HB3.out.r0
            have c0_2 : w3.cell? ⟨w.heap.size, 2, none⟩ = some (.int .i64 c) := cell_of_row _ _ _ _ _ (0, 0) HB3.out.r0
            have c0_3 : w3.cell? ⟨w.heap.size, 3, none⟩ = some (.bool d) := cell_of_row _ _ _ _ _ (0, 0) HB3.out.r0
            have c0_4 : w3.cell? ⟨w.heap.size, 4, none⟩ = some (.int .i64 e) := cell_of_row _ _ _ _ _ (0, 0) HB3.out.r0
            go_wp2_with fail
            go_ret
            exact ⟨by simp, HB3.out.below⟩
    · have hB : Dr.isB ⟨a, b, c, d, e⟩ = false := by
        unfold Dr.isB
        rw [if_neg h0]
        have : ¬ (1 ≤ a ∧ a ≤ 3) := by omega
        by_cases h2 : 1 ≤ a
        · simp [show ¬ a ≤ 3 by omega]
        · simp [h2]
      rw [hB]
      have ha1 : ¬ a = 1 := fun h => h1 (.inl h)
      have ha2 : ¬ a = 2 := fun h => h1 (.inr (.inl h))
      have ha3 : ¬ a = 3 := fun h => h1 (.inr (.inr h))
      have hr : ¬ 0 < a ∨ (0 < a ∧ ¬ a ≤ 3) := by omega
      clear h1 hB
      rcases hr with hr | ⟨hr, hr2⟩
      all_goals
        go_enter Tryd.func29, Tryd.ntmps29
        go_wp2_with fail
        go_ret
        exact ⟨rfl, by go_grown⟩
set_option maxHeartbeats 2000000 in
theorem late_any (t0 t1 t2 t3 t4 t5 t6 t7 t8 : Int) (a b c : Int) (d : Bool) (e : Int) (w : World) :
    Calls Tryd.prog 41 #[.agg #[.int .i64 t0, .int .i64 t1, .int .i64 t2, .int .i64 t3, .int .i64 t4, .int .i64 t5, .int .i64 t6, .int .i64 t7, .int .i64 t8], .agg #[.int .i64 a, .int .i64 b, .int .i64 c, .bool d, .int .i64 e]] w fun ee w' => ee = .returned (.bool (Dr.late t5 ⟨a, b, c, d, e⟩)) ∧ Below w.heap.size w w' := by
  have hl : Dr.late t5 ⟨a, b, c, d, e⟩ = ((a == 1 || a == 3) && decide (t5 < b)) := rfl
  rw [hl]
  clear hl
  by_cases hb : t5 < b
  all_goals
    have hd := hb
    first
      | rw [decide_eq_true hd]
      | rw [decide_eq_false hd]
    by_cases h1 : a = 1
    · subst h1
      go_enter Tryd.func41, Tryd.ntmps41
      go_wp2_with fail
      go_ret
      exact ⟨rfl, by go_grown⟩
    · by_cases h3 : a = 3
      · subst h3
        go_enter Tryd.func41, Tryd.ntmps41
        go_wp2_with fail
        go_ret
        exact ⟨rfl, by go_grown⟩
      · rw [show (a == 1 || a == 3) = false by simp [h1, h3]]
        go_enter Tryd.func41, Tryd.ntmps41
        go_wp2_with fail
        go_ret
        exact ⟨rfl, by go_grown⟩
set_option maxHeartbeats 2000000 in
theorem skip_any (a b c : Int) (d : Bool) (e : Int) (w : World) :
    Calls Tryd.prog 20 #[.agg #[.int .i64 a, .int .i64 b, .int .i64 c, .bool d, .int .i64 e]] w fun ee w' => ee = .returned ((Dr.skipF ⟨a, b, c, d, e⟩).agg) ∧ Below w.heap.size w w' := by
  have F := Lib.hid (fun wx => isState_any a b c d e wx)
  by_cases hB : Dr.isB ⟨a, b, c, d, e⟩ = true
  · rw [hB] at F
    by_cases h0 : a = 0
    · rw [show Dr.skipF ⟨a, b, c, d, e⟩ = ⟨a, b, c, d, e⟩ from if_neg (fun h => h.2 h0)]
      subst h0
      clear hB
      have HB0 := Lib.hid (bxs2 w (.cells #[.int .i64 0, .int .i64 b, .int .i64 c, .bool d, .int .i64 e] 33) (.cells #[.int .i64 0, .int .i64 0, .int .i64 0, .bool false, .int .i64 0] 33))
      go_enter Tryd.func20, Tryd.ntmps20
      go_wp2_with fail
      refine (F.out _).mono ?_
      rintro e w1 ⟨rfl, hb1⟩
      have HB1 := Lib.hid (HB0.out.next hb1)
      clear hb1 HB0
      obtain ⟨c0_0, c0_1, c0_2, c0_3, c0_4⟩ := row5 (b := w.heap.size) HB1.out.r0
      obtain ⟨c1_0, c1_1, c1_2, c1_3, c1_4⟩ := row5 (b := w.heap.size + 1) HB1.out.r1
      go_wp2_with (with_reducible show wpList _ _ _ (Oper.mk _ (.store 33 _ _) _ _ _ _ :: _) _ _; refine Hid.out ?_)
      refine Lib.hid ?_
      refine wpList_put rfl 33 _ _ rfl (w.heap.size + 1) #[.int .i64 0, .int .i64 b, .int .i64 c, .bool d, .int .i64 e] _ 33 rfl rfl HB1.out.r1 (by kernel_rfl) rfl (by kernel_rfl) ?_
      intro w2 hr2 hg2
      have HB2 : Hid (Bx w [(w.heap.size, .cells #[.int .i64 0, .int .i64 b, .int .i64 c, .bool d, .int .i64 e] 33 (0, 0)), (w.heap.size + 1, .cells #[.int .i64 0, .int .i64 b, .int .i64 c, .bool d, .int .i64 e] 33 (0, 0))] w2) := Lib.hid (HB1.out.put (by omega) hg2.out hr2.out (by simp only [List.mem_cons, List.not_mem_nil, or_false]; rintro p (rfl | rfl) <;> simp <;> omega))
      clear c0_0 c0_1 c0_2 c0_3 c0_4 c1_0 c1_1 c1_2 c1_3 c1_4 hr2 hg2 HB1
      obtain ⟨c0_0, c0_1, c0_2, c0_3, c0_4⟩ := row5 (b := w.heap.size) HB2.out.r0
      obtain ⟨c1_0, c1_1, c1_2, c1_3, c1_4⟩ := row5 (b := w.heap.size + 1) HB2.out.r1
      go_wp2_with fail
      exact bodyPost_ret (results_cell_row Tryd.results20 _ _ _ _ _ (0, 0) _ rfl (HB2.out.r1) Tryd.underlying33 rfl (by kernel_rfl)) rfl (⟨rfl, HB2.out.below⟩)
    · rw [show Dr.skipF ⟨a, b, c, d, e⟩ = ⟨a, Dr.more b, Dr.next c, d, e⟩ from if_pos ⟨hB, h0⟩]
      obtain ⟨-, hb, hc, -⟩ := (Dr.isB_iff h0).1 hB
      clear hB
      simp only at hb hc
      have FN := Lib.hid (fun wx => nextSince_any c wx hc)
      generalize Dr.next c = n at *
      have FL := Lib.hid (fun wx => longer_any a b n d e wx hb)
      generalize Dr.more b = m at *
      clear hb hc
      have HB0 := Lib.hid (bxs2 w (.cells #[.int .i64 a, .int .i64 b, .int .i64 c, .bool d, .int .i64 e] 33) (.cells #[.int .i64 0, .int .i64 0, .int .i64 0, .bool false, .int .i64 0] 33))
      go_enter Tryd.func20, Tryd.ntmps20
      go_wp2_with fail
      refine (F.out _).mono ?_
      rintro e w1 ⟨rfl, hb1⟩
      have HB1 := Lib.hid (HB0.out.next hb1)
      clear hb1 HB0
      obtain ⟨c0_0, c0_1, c0_2, c0_3, c0_4⟩ := row5 (b := w.heap.size) HB1.out.r0
      obtain ⟨c1_0, c1_1, c1_2, c1_3, c1_4⟩ := row5 (b := w.heap.size + 1) HB1.out.r1
      go_wp2_with fail
      refine (FN.out _).mono ?_
      rintro e w2 ⟨rfl, hb2⟩
      have HB2 := Lib.hid (HB1.out.next hb2)
      clear c0_0 c0_1 c0_2 c0_3 c0_4 c1_0 c1_1 c1_2 c1_3 c1_4 hb2 HB1
      obtain ⟨c0_0, c0_1, c0_2, c0_3, c0_4⟩ := row5 (b := w.heap.size) HB2.out.r0
      obtain ⟨c1_0, c1_1, c1_2, c1_3, c1_4⟩ := row5 (b := w.heap.size + 1) HB2.out.r1
      go_wp2_with (with_reducible show wpList _ _ _ (Oper.mk _ (.store 3 _ _) _ _ _ _ :: _) _ _; refine Hid.out ?_)
      refine Lib.hid ?_
      refine wpList_putCell rfl 3 _ _ rfl (w.heap.size) 2 (.int .i64 n) _ _ 33 rfl rfl HB2.out.r0 (by kernel_rfl) (by simp) rfl rfl rfl ?_
      intro w3 hr3 hg3
      have HB3 : Hid (Bx w [(w.heap.size, .cells #[.int .i64 a, .int .i64 b, .int .i64 n, .bool d, .int .i64 e] 33 (0, 0)), (w.heap.size + 1, .cells #[.int .i64 0, .int .i64 0, .int .i64 0, .bool false, .int .i64 0] 33 (0, 0))] w3) := Lib.hid (HB2.out.put (by omega) hg3.out hr3.out (by simp only [List.mem_cons, List.not_mem_nil, or_false]; rintro p (rfl | rfl) <;> simp <;> omega))
      clear c0_0 c0_1 c0_2 c0_3 c0_4 c1_0 c1_1 c1_2 c1_3 c1_4 hr3 hg3 HB2
      obtain ⟨c0_0, c0_1, c0_2, c0_3, c0_4⟩ := row5 (b := w.heap.size) HB3.out.r0
      obtain ⟨c1_0, c1_1, c1_2, c1_3, c1_4⟩ := row5 (b := w.heap.size + 1) HB3.out.r1
      go_wp2_with fail
      refine (FL.out _).mono ?_
      rintro e w4 ⟨rfl, hb4⟩
      have HB4 := Lib.hid (HB3.out.next hb4)
      clear c0_0 c0_1 c0_2 c0_3 c0_4 c1_0 c1_1 c1_2 c1_3 c1_4 hb4 HB3
      obtain ⟨c0_0, c0_1, c0_2, c0_3, c0_4⟩ := row5 (b := w.heap.size) HB4.out.r0
      obtain ⟨c1_0, c1_1, c1_2, c1_3, c1_4⟩ := row5 (b := w.heap.size + 1) HB4.out.r1
      go_wp2_with (with_reducible show wpList _ _ _ (Oper.mk _ (.store 33 _ _) _ _ _ _ :: _) _ _; refine Hid.out ?_)
      refine Lib.hid ?_
      refine wpList_put rfl 33 _ _ rfl (w.heap.size + 1) #[.int .i64 a, .int .i64 m, .int .i64 n, .bool d, .int .i64 e] _ 33 rfl rfl HB4.out.r1 (by kernel_rfl) rfl (by kernel_rfl) ?_
      intro w5 hr5 hg5
      have HB5 : Hid (Bx w [(w.heap.size, .cells #[.int .i64 a, .int .i64 b, .int .i64 n, .bool d, .int .i64 e] 33 (0, 0)), (w.heap.size + 1, .cells #[.int .i64 a, .int .i64 m, .int .i64 n, .bool d, .int .i64 e] 33 (0, 0))] w5) := Lib.hid (HB4.out.put (by omega) hg5.out hr5.out (by simp only [List.mem_cons, List.not_mem_nil, or_false]; rintro p (rfl | rfl) <;> simp <;> omega))
      clear c0_0 c0_1 c0_2 c0_3 c0_4 c1_0 c1_1 c1_2 c1_3 c1_4 hr5 hg5 HB4
      obtain ⟨c0_0, c0_1, c0_2, c0_3, c0_4⟩ := row5 (b := w.heap.size) HB5.out.r0
      obtain ⟨c1_0, c1_1, c1_2, c1_3, c1_4⟩ := row5 (b := w.heap.size + 1) HB5.out.r1
      go_wp2_with fail
      exact bodyPost_ret (results_cell_row Tryd.results20 _ _ _ _ _ (0, 0) _ rfl (HB5.out.r1) Tryd.underlying33 rfl (by kernel_rfl)) rfl (⟨rfl, HB5.out.below⟩)
  · rw [show Dr.skipF ⟨a, b, c, d, e⟩ = ⟨a, b, c, d, e⟩ from if_neg (fun h => hB h.1)]
    rw [Bool.eq_false_iff.2 hB] at F
    clear hB
    have HB0 := Lib.hid (bxs2 w (.cells #[.int .i64 a, .int .i64 b, .int .i64 c, .bool d, .int .i64 e] 33) (.cells #[.int .i64 0, .int .i64 0, .int .i64 0, .bool false, .int .i64 0] 33))
    go_enter Tryd.func20, Tryd.ntmps20
    go_wp2_with fail
    refine (F.out _).mono ?_
    rintro e w1 ⟨rfl, hb1⟩
    have HB1 := Lib.hid (HB0.out.next hb1)
    clear hb1 HB0
    obtain ⟨c0_0, c0_1, c0_2, c0_3, c0_4⟩ := row5 (b := w.heap.size) HB1.out.r0
    obtain ⟨c1_0, c1_1, c1_2, c1_3, c1_4⟩ := row5 (b := w.heap.size + 1) HB1.out.r1
    go_wp2_with (with_reducible show wpList _ _ _ (Oper.mk _ (.store 33 _ _) _ _ _ _ :: _) _ _; refine Hid.out ?_)
    refine Lib.hid ?_
    refine wpList_put rfl 33 _ _ rfl (w.heap.size + 1) #[.int .i64 a, .int .i64 b, .int .i64 c, .bool d, .int .i64 e] _ 33 rfl rfl HB1.out.r1 (by kernel_rfl) rfl (by kernel_rfl) ?_
    intro w2 hr2 hg2
    have HB2 : Hid (Bx w [(w.heap.size, .cells #[.int .i64 a, .int .i64 b, .int .i64 c, .bool d, .int .i64 e] 33 (0, 0)), (w.heap.size + 1, .cells #[.int .i64 a, .int .i64 b, .int .i64 c, .bool d, .int .i64 e] 33 (0, 0))] w2) := Lib.hid (HB1.out.put (by omega) hg2.out hr2.out (by simp only [List.mem_cons, List.not_mem_nil, or_false]; rintro p (rfl | rfl) <;> simp <;> omega))
    clear c0_0 c0_1 c0_2 c0_3 c0_4 c1_0 c1_1 c1_2 c1_3 c1_4 hr2 hg2 HB1
    obtain ⟨c0_0, c0_1, c0_2, c0_3, c0_4⟩ := row5 (b := w.heap.size) HB2.out.r0
    obtain ⟨c1_0, c1_1, c1_2, c1_3, c1_4⟩ := row5 (b := w.heap.size + 1) HB2.out.r1
    go_wp2_with fail
    exact bodyPost_ret (results_cell_row Tryd.results20 _ _ _ _ _ (0, 0) _ rfl (HB2.out.r1) Tryd.underlying33 rfl (by kernel_rfl)) rfl (⟨rfl, HB2.out.below⟩)
end Go.Proofs.YtnjcegkefjdgdaaDoor
