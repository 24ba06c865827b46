/- IsState, Late, Skip of doors. No statement of the seat is proved here. -/
import Derived.Test.YthniolaeicmjlaaDrLeaf
namespace Go.Proofs.Ythniolaeicmjlaa
open Go.RowKit

theorem isState_any (a b c : Int) (d : Bool) (e : Int) (w : World) :
    Calls Try.prog 9 #[.agg #[.int .i64 a, .int .i64 b, .int .i64 c, .bool d, .int .i64 e]] w fun ee w' => ee = .returned (.bool (Dr.isB ⟨a, b, c, d, e⟩)) ∧ Below w.heap.size w w' := by
  by_cases h0 : a = 0
  · subst h0
    rw [show Dr.isB ⟨0, b, c, d, e⟩ = Dr.same ⟨0, b, c, d, e⟩ ⟨0, 0, 0, false, 0⟩ from rfl]
    have q := eqlDr 0 b c d e 0 0 0 false 0
    generalize Dr.same ⟨0, b, c, d, e⟩ ⟨0, 0, 0, false, 0⟩ = Q at *
    go_enter Try.func9, Try.ntmps9
    go_wp2_with fail
    go_ret
    exact ⟨rfl, by go_grown⟩
  · by_cases h1 : a = 1 ∨ a = 2 ∨ a = 3
    · have hB : Dr.isB ⟨a, b, c, d, e⟩ = (Dr.isCount b && Dr.isCount c && Dr.isCount e) := by rcases h1 with rfl | rfl | rfl <;> simp [Dr.isB]
      rw [hB]
      clear hB h0
      have F1 := Lib.hid (fun wx => isCount_any b wx)
      have F2 := Lib.hid (fun wx => isCount_any c wx)
      have F3 := Lib.hid (fun wx => isCount_any e wx)
      generalize Dr.isCount b = x at *
      generalize Dr.isCount c = y at *
      generalize Dr.isCount e = z at *
      rcases h1 with rfl | rfl | rfl
      · cases x
        · have HB0 := Lib.hid (bxs1 w (.cells #[.int .i64 1, .int .i64 b, .int .i64 c, .bool d, .int .i64 e] 25))
          go_enter Try.func9, Try.ntmps9
          go_wp2_with fail
          refine (F1.out _).mono ?_
          rintro e w1 ⟨rfl, hb1⟩
          have HB1 := Lib.hid (HB0.out.next hb1)
          clear hb1 HB0
          have c0_0 : w1.cell? ⟨w.heap.size, 0, none⟩ = some (.int .i64 1) := cell_of_row _ _ _ _ _ (0, 0) HB1.out.r0
          have c0_1 : w1.cell? ⟨w.heap.size, 1, none⟩ = some (.int .i64 b) := cell_of_row _ _ _ _ _ (0, 0) HB1.out.r0
          have c0_2 : w1.cell? ⟨w.heap.size, 2, none⟩ = some (.int .i64 c) := cell_of_row _ _ _ _ _ (0, 0) HB1.out.r0
          have c0_3 : w1.cell? ⟨w.heap.size, 3, none⟩ = some (.bool d) := cell_of_row _ _ _ _ _ (0, 0) HB1.out.r0
          have c0_4 : w1.cell? ⟨w.heap.size, 4, none⟩ = some (.int .i64 e) := cell_of_row _ _ _ _ _ (0, 0) HB1.out.r0
          go_wp2_with fail
          go_ret
          exact ⟨by simp, HB1.out.below⟩
        · cases y
          · have HB0 := Lib.hid (bxs1 w (.cells #[.int .i64 1, .int .i64 b, .int .i64 c, .bool d, .int .i64 e] 25))
            go_enter Try.func9, Try.ntmps9
            go_wp2_with fail
            refine (F1.out _).mono ?_
            rintro e w1 ⟨rfl, hb1⟩
            have HB1 := Lib.hid (HB0.out.next hb1)
            clear hb1 HB0
            have c0_0 : w1.cell? ⟨w.heap.size, 0, none⟩ = some (.int .i64 1) := cell_of_row _ _ _ _ _ (0, 0) HB1.out.r0
            have c0_1 : w1.cell? ⟨w.heap.size, 1, none⟩ = some (.int .i64 b) := cell_of_row _ _ _ _ _ (0, 0) HB1.out.r0
            have c0_2 : w1.cell? ⟨w.heap.size, 2, none⟩ = some (.int .i64 c) := cell_of_row _ _ _ _ _ (0, 0) HB1.out.r0
            have c0_3 : w1.cell? ⟨w.heap.size, 3, none⟩ = some (.bool d) := cell_of_row _ _ _ _ _ (0, 0) HB1.out.r0
            have c0_4 : w1.cell? ⟨w.heap.size, 4, none⟩ = some (.int .i64 e) := cell_of_row _ _ _ _ _ (0, 0) HB1.out.r0
            go_wp2_with fail
            refine (F2.out _).mono ?_
            rintro e w2 ⟨rfl, hb2⟩
            have HB2 := Lib.hid (HB1.out.next hb2)
            clear c0_0 c0_1 c0_2 c0_3 c0_4 hb2 HB1
            have c0_0 : w2.cell? ⟨w.heap.size, 0, none⟩ = some (.int .i64 1) := cell_of_row _ _ _ _ _ (0, 0) HB2.out.r0
            have c0_1 : w2.cell? ⟨w.heap.size, 1, none⟩ = some (.int .i64 b) := cell_of_row _ _ _ _ _ (0, 0) HB2.out.r0
            have c0_2 : w2.cell? ⟨w.heap.size, 2, none⟩ = some (.int .i64 c) := cell_of_row _ _ _ _ _ (0, 0) HB2.out.r0
            have c0_3 : w2.cell? ⟨w.heap.size, 3, none⟩ = some (.bool d) := cell_of_row _ _ _ _ _ (0, 0) HB2.out.r0
            have c0_4 : w2.cell? ⟨w.heap.size, 4, none⟩ = some (.int .i64 e) := cell_of_row _ _ _ _ _ (0, 0) HB2.out.r0
            go_wp2_with fail
            go_ret
            exact ⟨by simp, HB2.out.below⟩
          · have HB0 := Lib.hid (bxs1 w (.cells #[.int .i64 1, .int .i64 b, .int .i64 c, .bool d, .int .i64 e] 25))
            go_enter Try.func9, Try.ntmps9
            go_wp2_with fail
            refine (F1.out _).mono ?_
            rintro e w1 ⟨rfl, hb1⟩
            have HB1 := Lib.hid (HB0.out.next hb1)
            clear hb1 HB0
            have c0_0 : w1.cell? ⟨w.heap.size, 0, none⟩ = some (.int .i64 1) := cell_of_row _ _ _ _ _ (0, 0) HB1.out.r0
            have c0_1 : w1.cell? ⟨w.heap.size, 1, none⟩ = some (.int .i64 b) := cell_of_row _ _ _ _ _ (0, 0) HB1.out.r0
            have c0_2 : w1.cell? ⟨w.heap.size, 2, none⟩ = some (.int .i64 c) := cell_of_row _ _ _ _ _ (0, 0) HB1.out.r0
            have c0_3 : w1.cell? ⟨w.heap.size, 3, none⟩ = some (.bool d) := cell_of_row _ _ _ _ _ (0, 0) HB1.out.r0
            have c0_4 : w1.cell? ⟨w.heap.size, 4, none⟩ = some (.int .i64 e) := cell_of_row _ _ _ _ _ (0, 0) HB1.out.r0
            go_wp2_with fail
            refine (F2.out _).mono ?_
            rintro e w2 ⟨rfl, hb2⟩
            have HB2 := Lib.hid (HB1.out.next hb2)
            clear c0_0 c0_1 c0_2 c0_3 c0_4 hb2 HB1
            have c0_0 : w2.cell? ⟨w.heap.size, 0, none⟩ = some (.int .i64 1) := cell_of_row _ _ _ _ _ (0, 0) HB2.out.r0
            have c0_1 : w2.cell? ⟨w.heap.size, 1, none⟩ = some (.int .i64 b) := cell_of_row _ _ _ _ _ (0, 0) HB2.out.r0
            have c0_2 : w2.cell? ⟨w.heap.size, 2, none⟩ = some (.int .i64 c) := cell_of_row _ _ _ _ _ (0, 0) HB2.out.r0
            have c0_3 : w2.cell? ⟨w.heap.size, 3, none⟩ = some (.bool d) := cell_of_row _ _ _ _ _ (0, 0) HB2.out.r0
            have c0_4 : w2.cell? ⟨w.heap.size, 4, none⟩ = some (.int .i64 e) := cell_of_row _ _ _ _ _ (0, 0) HB2.out.r0
            go_wp2_with fail
            refine (F3.out _).mono ?_
            rintro e w3 ⟨rfl, hb3⟩
            have HB3 := Lib.hid (HB2.out.next hb3)
            clear c0_0 c0_1 c0_2 c0_3 c0_4 hb3 HB2
            have c0_0 : w3.cell? ⟨w.heap.size, 0, none⟩ = some (.int .i64 1) := cell_of_row _ _ _ _ _ (0, 0) HB3.out.r0
            have c0_1 : w3.cell? ⟨w.heap.size, 1, none⟩ = some (.int .i64 b) := cell_of_row _ _ _ _ _ (0, 0) HB3.out.r0
            have c0_2 : w3.cell? ⟨w.heap.size, 2, none⟩ = some (.int .i64 c) := cell_of_row _ _ _ _ _ (0, 0) HB3.out.r0
            have c0_3 : w3.cell? ⟨w.heap.size, 3, none⟩ = some (.bool d) := cell_of_row _ _ _ _ _ (0, 0) HB3.out.r0
            have c0_4 : w3.cell? ⟨w.heap.size, 4, none⟩ = some (.int .i64 e) := cell_of_row _ _ _ _ _ (0, 0) HB3.out.r0
            go_wp2_with fail
            go_ret
            exact ⟨by simp, HB3.out.below⟩
      · cases x
        · have HB0 := Lib.hid (bxs1 w (.cells #[.int .i64 2, .int .i64 b, .int .i64 c, .bool d, .int .i64 e] 25))
          go_enter Try.func9, Try.ntmps9
          go_wp2_with fail
          refine (F1.out _).mono ?_
          rintro e w1 ⟨rfl, hb1⟩
          have HB1 := Lib.hid (HB0.out.next hb1)
          clear hb1 HB0
          have c0_0 : w1.cell? ⟨w.heap.size, 0, none⟩ = some (.int .i64 2) := cell_of_row _ _ _ _ _ (0, 0) HB1.out.r0
          have c0_1 : w1.cell? ⟨w.heap.size, 1, none⟩ = some (.int .i64 b) := cell_of_row _ _ _ _ _ (0, 0) HB1.out.r0
          have c0_2 : w1.cell? ⟨w.heap.size, 2, none⟩ = some (.int .i64 c) := cell_of_row _ _ _ _ _ (0, 0) HB1.out.r0
          have c0_3 : w1.cell? ⟨w.heap.size, 3, none⟩ = some (.bool d) := cell_of_row _ _ _ _ _ (0, 0) HB1.out.r0
          have c0_4 : w1.cell? ⟨w.heap.size, 4, none⟩ = some (.int .i64 e) := cell_of_row _ _ _ _ _ (0, 0) HB1.out.r0
          go_wp2_with fail
          go_ret
          exact ⟨by simp, HB1.out.below⟩
        · cases y
          · have HB0 := Lib.hid (bxs1 w (.cells #[.int .i64 2, .int .i64 b, .int .i64 c, .bool d, .int .i64 e] 25))
            go_enter Try.func9, Try.ntmps9
            go_wp2_with fail
            refine (F1.out _).mono ?_
            rintro e w1 ⟨rfl, hb1⟩
            have HB1 := Lib.hid (HB0.out.next hb1)
            clear hb1 HB0
            have c0_0 : w1.cell? ⟨w.heap.size, 0, none⟩ = some (.int .i64 2) := cell_of_row _ _ _ _ _ (0, 0) HB1.out.r0
            have c0_1 : w1.cell? ⟨w.heap.size, 1, none⟩ = some (.int .i64 b) := cell_of_row _ _ _ _ _ (0, 0) HB1.out.r0
            have c0_2 : w1.cell? ⟨w.heap.size, 2, none⟩ = some (.int .i64 c) := cell_of_row _ _ _ _ _ (0, 0) HB1.out.r0
            have c0_3 : w1.cell? ⟨w.heap.size, 3, none⟩ = some (.bool d) := cell_of_row _ _ _ _ _ (0, 0) HB1.out.r0
            have c0_4 : w1.cell? ⟨w.heap.size, 4, none⟩ = some (.int .i64 e) := cell_of_row _ _ _ _ _ (0, 0) HB1.out.r0
            go_wp2_with fail
            refine (F2.out _).mono ?_
            rintro e w2 ⟨rfl, hb2⟩
            have HB2 := Lib.hid (HB1.out.next hb2)
            clear c0_0 c0_1 c0_2 c0_3 c0_4 hb2 HB1
            have c0_0 : w2.cell? ⟨w.heap.size, 0, none⟩ = some (.int .i64 2) := cell_of_row _ _ _ _ _ (0, 0) HB2.out.r0
            have c0_1 : w2.cell? ⟨w.heap.size, 1, none⟩ = some (.int .i64 b) := cell_of_row _ _ _ _ _ (0, 0) HB2.out.r0
            have c0_2 : w2.cell? ⟨w.heap.size, 2, none⟩ = some (.int .i64 c) := cell_of_row _ _ _ _ _ (0, 0) HB2.out.r0
            have c0_3 : w2.cell? ⟨w.heap.size, 3, none⟩ = some (.bool d) := cell_of_row _ _ _ _ _ (0, 0) HB2.out.r0
            have c0_4 : w2.cell? ⟨w.heap.size, 4, none⟩ = some (.int .i64 e) := cell_of_row _ _ _ _ _ (0, 0) HB2.out.r0
            go_wp2_with fail
            go_ret
            exact ⟨by simp, HB2.out.below⟩
          · have HB0 := Lib.hid (bxs1 w (.cells #[.int .i64 2, .int .i64 b, .int .i64 c, .bool d, .int .i64 e] 25))
            go_enter Try.func9, Try.ntmps9
            go_wp2_with fail
            refine (F1.out _).mono ?_
            rintro e w1 ⟨rfl, hb1⟩
            have HB1 := Lib.hid (HB0.out.next hb1)
            clear hb1 HB0
            have c0_0 : w1.cell? ⟨w.heap.size, 0, none⟩ = some (.int .i64 2) := cell_of_row _ _ _ _ _ (0, 0) HB1.out.r0
            have c0_1 : w1.cell? ⟨w.heap.size, 1, none⟩ = some (.int .i64 b) := cell_of_row _ _ _ _ _ (0, 0) HB1.out.r0
            have c0_2 : w1.cell? ⟨w.heap.size, 2, none⟩ = some (.int .i64 c) := cell_of_row _ _ _ _ _ (0, 0) HB1.out.r0
            have c0_3 : w1.cell? ⟨w.heap.size, 3, none⟩ = some (.bool d) := cell_of_row _ _ _ _ _ (0, 0) HB1.out.r0
            have c0_4 : w1.cell? ⟨w.heap.size, 4, none⟩ = some (.int .i64 e) := cell_of_row _ _ _ _ _ (0, 0) HB1.out.r0
            go_wp2_with fail
            refine (F2.out _).mono ?_
            rintro e w2 ⟨rfl, hb2⟩
            have HB2 := Lib.hid (HB1.out.next hb2)
            clear c0_0 c0_1 c0_2 c0_3 c0_4 hb2 HB1
            have c0_0 : w2.cell? ⟨w.heap.size, 0, none⟩ = some (.int .i64 2) := cell_of_row _ _ _ _ _ (0, 0) HB2.out.r0
            have c0_1 : w2.cell? ⟨w.heap.size, 1, none⟩ = some (.int .i64 b) := cell_of_row _ _ _ _ _ (0, 0) HB2.out.r0
            have c0_2 : w2.cell? ⟨w.heap.size, 2, none⟩ = some (.int .i64 c) := cell_of_row _ _ _ _ _ (0, 0) HB2.out.r0
            have c0_3 : w2.cell? ⟨w.heap.size, 3, none⟩ = some (.bool d) := cell_of_row _ _ _ _ _ (0, 0) HB2.out.r0
            have c0_4 : w2.cell? ⟨w.heap.size, 4, none⟩ = some (.int .i64 e) := cell_of_row _ _ _ _ _ (0, 0) HB2.out.r0
            go_wp2_with fail
            refine (F3.out _).mono ?_
            rintro e w3 ⟨rfl, hb3⟩
            have HB3 := Lib.hid (HB2.out.next hb3)
            clear c0_0 c0_1 c0_2 c0_3 c0_4 hb3 HB2
            have c0_0 : w3.cell? ⟨w.heap.size, 0, none⟩ = some (.int .i64 2) := cell_of_row _ _ _ _ _ (0, 0) HB3.out.r0
            have c0_1 : w3.cell? ⟨w.heap.size, 1, none⟩ = some (.int .i64 b) := cell_of_row _ _ _ _ _ (0, 0) HB3.out.r0
            have c0_2 : w3.cell? ⟨w.heap.size, 2, none⟩ = some (.int .i64 c) := cell_of_row _ _ _ _ _ (0, 0) HB3.out.r0
            have c0_3 : w3.cell? ⟨w.heap.size, 3, none⟩ = some (.bool d) := cell_of_row _ _ _ _ _ (0, 0) HB3.out.r0
            have c0_4 : w3.cell? ⟨w.heap.size, 4, none⟩ = some (.int .i64 e) := cell_of_row _ _ _ _ _ (0, 0) HB3.out.r0
            go_wp2_with fail
            go_ret
            exact ⟨by simp, HB3.out.below⟩
      · cases x
        · have HB0 := Lib.hid (bxs1 w (.cells #[.int .i64 3, .int .i64 b, .int .i64 c, .bool d, .int .i64 e] 25))
          go_enter Try.func9, Try.ntmps9
          go_wp2_with fail
          refine (F1.out _).mono ?_
          rintro e w1 ⟨rfl, hb1⟩
          have HB1 := Lib.hid (HB0.out.next hb1)
          clear hb1 HB0
          have c0_0 : w1.cell? ⟨w.heap.size, 0, none⟩ = some (.int .i64 3) := cell_of_row _ _ _ _ _ (0, 0) HB1.out.r0
          have c0_1 : w1.cell? ⟨w.heap.size, 1, none⟩ = some (.int .i64 b) := cell_of_row _ _ _ _ _ (0, 0) HB1.out.r0
          have c0_2 : w1.cell? ⟨w.heap.size, 2, none⟩ = some (.int .i64 c) := cell_of_row _ _ _ _ _ (0, 0) HB1.out.r0
          have c0_3 : w1.cell? ⟨w.heap.size, 3, none⟩ = some (.bool d) := cell_of_row _ _ _ _ _ (0, 0) HB1.out.r0
          have c0_4 : w1.cell? ⟨w.heap.size, 4, none⟩ = some (.int .i64 e) := cell_of_row _ _ _ _ _ (0, 0) HB1.out.r0
          go_wp2_with fail
          go_ret
          exact ⟨by simp, HB1.out.below⟩
        · cases y
          · have HB0 := Lib.hid (bxs1 w (.cells #[.int .i64 3, .int .i64 b, .int .i64 c, .bool d, .int .i64 e] 25))
            go_enter Try.func9, Try.ntmps9
            go_wp2_with fail
            refine (F1.out _).mono ?_
            rintro e w1 ⟨rfl, hb1⟩
            have HB1 := Lib.hid (HB0.out.next hb1)
            clear hb1 HB0
            have c0_0 : w1.cell? ⟨w.heap.size, 0, none⟩ = some (.int .i64 3) := cell_of_row _ _ _ _ _ (0, 0) HB1.out.r0
            have c0_1 : w1.cell? ⟨w.heap.size, 1, none⟩ = some (.int .i64 b) := cell_of_row _ _ _ _ _ (0, 0) HB1.out.r0
            have c0_2 : w1.cell? ⟨w.heap.size, 2, none⟩ = some (.int .i64 c) := cell_of_row _ _ _ _ _ (0, 0) HB1.out.r0
            have c0_3 : w1.cell? ⟨w.heap.size, 3, none⟩ = some (.bool d) := cell_of_row _ _ _ _ _ (0, 0) HB1.out.r0
            have c0_4 : w1.cell? ⟨w.heap.size, 4, none⟩ = some (.int .i64 e) := cell_of_row _ _ _ _ _ (0, 0) HB1.out.r0
            go_wp2_with fail
            refine (F2.out _).mono ?_
            rintro e w2 ⟨rfl, hb2⟩
            have HB2 := Lib.hid (HB1.out.next hb2)
            clear c0_0 c0_1 c0_2 c0_3 c0_4 hb2 HB1
            have c0_0 : w2.cell? ⟨w.heap.size, 0, none⟩ = some (.int .i64 3) := cell_of_row _ _ _ _ _ (0, 0) HB2.out.r0
            have c0_1 : w2.cell? ⟨w.heap.size, 1, none⟩ = some (.int .i64 b) := cell_of_row _ _ _ _ _ (0, 0) HB2.out.r0
            have c0_2 : w2.cell? ⟨w.heap.size, 2, none⟩ = some (.int .i64 c) := cell_of_row _ _ _ _ _ (0, 0) HB2.out.r0
            have c0_3 : w2.cell? ⟨w.heap.size, 3, none⟩ = some (.bool d) := cell_of_row _ _ _ _ _ (0, 0) HB2.out.r0
            have c0_4 : w2.cell? ⟨w.heap.size, 4, none⟩ = some (.int .i64 e) := cell_of_row _ _ _ _ _ (0, 0) HB2.out.r0
            go_wp2_with fail
            go_ret
            exact ⟨by simp, HB2.out.below⟩
          · have HB0 := Lib.hid (bxs1 w (.cells #[.int .i64 3, .int .i64 b, .int .i64 c, .bool d, .int .i64 e] 25))
            go_enter Try.func9, Try.ntmps9
            go_wp2_with fail
            refine (F1.out _).mono ?_
            rintro e w1 ⟨rfl, hb1⟩
            have HB1 := Lib.hid (HB0.out.next hb1)
            clear hb1 HB0
            have c0_0 : w1.cell? ⟨w.heap.size, 0, none⟩ = some (.int .i64 3) := cell_of_row _ _ _ _ _ (0, 0) HB1.out.r0
            have c0_1 : w1.cell? ⟨w.heap.size, 1, none⟩ = some (.int .i64 b) := cell_of_row _ _ _ _ _ (0, 0) HB1.out.r0
            have c0_2 : w1.cell? ⟨w.heap.size, 2, none⟩ = some (.int .i64 c) := cell_of_row _ _ _ _ _ (0, 0) HB1.out.r0
            have c0_3 : w1.cell? ⟨w.heap.size, 3, none⟩ = some (.bool d) := cell_of_row _ _ _ _ _ (0, 0) HB1.out.r0
            have c0_4 : w1.cell? ⟨w.heap.size, 4, none⟩ = some (.int .i64 e) := cell_of_row _ _ _ _ _ (0, 0) HB1.out.r0
            go_wp2_with fail
            refine (F2.out _).mono ?_
            rintro e w2 ⟨rfl, hb2⟩
            have HB2 := Lib.hid (HB1.out.next hb2)
            clear c0_0 c0_1 c0_2 c0_3 c0_4 hb2 HB1
            have c0_0 : w2.cell? ⟨w.heap.size, 0, none⟩ = some (.int .i64 3) := cell_of_row _ _ _ _ _ (0, 0) HB2.out.r0
            have c0_1 : w2.cell? ⟨w.heap.size, 1, none⟩ = some (.int .i64 b) := cell_of_row _ _ _ _ _ (0, 0) HB2.out.r0
            have c0_2 : w2.cell? ⟨w.heap.size, 2, none⟩ = some (.int .i64 c) := cell_of_row _ _ _ _ _ (0, 0) HB2.out.r0
            have c0_3 : w2.cell? ⟨w.heap.size, 3, none⟩ = some (.bool d) := cell_of_row _ _ _ _ _ (0, 0) HB2.out.r0
            have c0_4 : w2.cell? ⟨w.heap.size, 4, none⟩ = some (.int .i64 e) := cell_of_row _ _ _ _ _ (0, 0) HB2.out.r0
            go_wp2_with fail
            refine (F3.out _).mono ?_
            rintro e w3 ⟨rfl, hb3⟩
            have HB3 := Lib.hid (HB2.out.next hb3)
            clear c0_0 c0_1 c0_2 c0_3 c0_4 hb3 HB2
            have c0_0 : w3.cell? ⟨w.heap.size, 0, none⟩ = some (.int .i64 3) := cell_of_row _ _ _ _ _ (0, 0) HB3.out.r0
            have c0_1 : w3.cell? ⟨w.heap.size, 1, none⟩ = some (.int .i64 b) := cell_of_row _ _ _ _ _ (0, 0) HB3.out.r0
            have c0_2 : w3.cell? ⟨w.heap.size, 2, none⟩ = some (.int .i64 c) := cell_of_row _ _ _ _ _ (0, 0) HB3.out.r0
            have c0_3 : w3.cell? ⟨w.heap.size, 3, none⟩ = some (.bool d) := cell_of_row _ _ _ _ _ (0, 0) HB3.out.r0
            have c0_4 : w3.cell? ⟨w.heap.size, 4, none⟩ = some (.int .i64 e) := cell_of_row _ _ _ _ _ (0, 0) HB3.out.r0
            go_wp2_with fail
            go_ret
            exact ⟨by simp, HB3.out.below⟩
    · have hB : Dr.isB ⟨a, b, c, d, e⟩ = false := by
        unfold Dr.isB
        rw [if_neg h0]
        have : ¬ (1 ≤ a ∧ a ≤ 3) := by omega
        by_cases h2 : 1 ≤ a
        · simp [show ¬ a ≤ 3 by omega]
        · simp [h2]
      rw [hB]
      have ha1 : ¬ a = 1 := fun h => h1 (.inl h)
      have ha2 : ¬ a = 2 := fun h => h1 (.inr (.inl h))
      have ha3 : ¬ a = 3 := fun h => h1 (.inr (.inr h))
      have hr : ¬ 0 < a ∨ (0 < a ∧ ¬ a ≤ 3) := by omega
      clear h1 hB
      rcases hr with hr | ⟨hr, hr2⟩
      all_goals
        go_enter Try.func9, Try.ntmps9
        go_wp2_with fail
        go_ret
        exact ⟨rfl, by go_grown⟩
theorem refIsState_any (a b c : Int) (d : Bool) (e : Int) (w : World) :
    Calls Try.prog 10 #[.agg #[.int .i64 a, .int .i64 b, .int .i64 c, .bool d, .int .i64 e]] w fun ee w' => ee = .returned (.bool (Dr.isB ⟨a, b, c, d, e⟩)) ∧ Below w.heap.size w w' := by
  by_cases h0 : a = 0
  · subst h0
    rw [show Dr.isB ⟨0, b, c, d, e⟩ = Dr.same ⟨0, b, c, d, e⟩ ⟨0, 0, 0, false, 0⟩ from rfl]
    have q := eqlDr 0 b c d e 0 0 0 false 0
    generalize Dr.same ⟨0, b, c, d, e⟩ ⟨0, 0, 0, false, 0⟩ = Q at *
    go_enter Try.func10, Try.ntmps10
    go_wp2_with fail
    go_ret
    exact ⟨rfl, by go_grown⟩
  · by_cases h1 : a = 1 ∨ a = 2 ∨ a = 3
    · have hB : Dr.isB ⟨a, b, c, d, e⟩ = (Dr.isCount b && Dr.isCount c && Dr.isCount e) := by rcases h1 with rfl | rfl | rfl <;> simp [Dr.isB]
      rw [hB]
      clear hB h0
      have F1 := Lib.hid (fun wx => refIn_any b wx)
      have F2 := Lib.hid (fun wx => refIn_any c wx)
      have F3 := Lib.hid (fun wx => refIn_any e wx)
      generalize Dr.isCount b = x at *
      generalize Dr.isCount c = y at *
      generalize Dr.isCount e = z at *
      rcases h1 with rfl | rfl | rfl
      · cases x
        · have HB0 := Lib.hid (bxs1 w (.cells #[.int .i64 1, .int .i64 b, .int .i64 c, .bool d, .int .i64 e] 25))
          go_enter Try.func10, Try.ntmps10
          go_wp2_with fail
          refine (F1.out _).mono ?_
          rintro e w1 ⟨rfl, hb1⟩
          have HB1 := Lib.hid (HB0.out.next hb1)
          clear hb1 HB0
          have c0_0 : w1.cell? ⟨w.heap.size, 0, none⟩ = some (.int .i64 1) := cell_of_row _ _ _ _ _ (0, 0) HB1.out.r0
          have c0_1 : w1.cell? ⟨w.heap.size, 1, none⟩ = some (.int .i64 b) := cell_of_row _ _ _ _ _ (0, 0) HB1.out.r0
          have c0_2 : w1.cell? ⟨w.heap.size, 2, none⟩ = some (.int .i64 c) := cell_of_row _ _ _ _ _ (0, 0) HB1.out.r0
          have c0_3 : w1.cell? ⟨w.heap.size, 3, none⟩ = some (.bool d) := cell_of_row _ _ _ _ _ (0, 0) HB1.out.r0
          have c0_4 : w1.cell? ⟨w.heap.size, 4, none⟩ = some (.int .i64 e) := cell_of_row _ _ _ _ _ (0, 0) HB1.out.r0
          go_wp2_with fail
          go_ret
          exact ⟨by simp, HB1.out.below⟩
        · cases y
          · have HB0 := Lib.hid (bxs1 w (.cells #[.int .i64 1, .int .i64 b, .int .i64 c, .bool d, .int .i64 e] 25))
            go_enter Try.func10, Try.ntmps10
            go_wp2_with fail
            refine (F1.out _).mono ?_
            rintro e w1 ⟨rfl, hb1⟩
            have HB1 := Lib.hid (HB0.out.next hb1)
            clear hb1 HB0
            have c0_0 : w1.cell? ⟨w.heap.size, 0, none⟩ = some (.int .i64 1) := cell_of_row _ _ _ _ _ (0, 0) HB1.out.r0
            have c0_1 : w1.cell? ⟨w.heap.size, 1, none⟩ = some (.int .i64 b) := cell_of_row _ _ _ _ _ (0, 0) HB1.out.r0
            have c0_2 : w1.cell? ⟨w.heap.size, 2, none⟩ = some (.int .i64 c) := cell_of_row _ _ _ _ _ (0, 0) HB1.out.r0
            have c0_3 : w1.cell? ⟨w.heap.size, 3, none⟩ = some (.bool d) := cell_of_row _ _ _ _ _ (0, 0) HB1.out.r0
            have c0_4 : w1.cell? ⟨w.heap.size, 4, none⟩ = some (.int .i64 e) := cell_of_row _ _ _ _ _ (0, 0) HB1.out.r0
            go_wp2_with fail
            refine (F2.out _).mono ?_
            rintro e w2 ⟨rfl, hb2⟩
            have HB2 := Lib.hid (HB1.out.next hb2)
            clear c0_0 c0_1 c0_2 c0_3 c0_4 hb2 HB1
            have c0_0 : w2.cell? ⟨w.heap.size, 0, none⟩ = some (.int .i64 1) := cell_of_row _ _ _ _ _ (0, 0) HB2.out.r0
            have c0_1 : w2.cell? ⟨w.heap.size, 1, none⟩ = some (.int .i64 b) := cell_of_row _ _ _ _ _ (0, 0) HB2.out.r0
            have c0_2 : w2.cell? ⟨w.heap.size, 2, none⟩ = some (.int .i64 c) := cell_of_row _ _ _ _ _ (0, 0) HB2.out.r0
            have c0_3 : w2.cell? ⟨w.heap.size, 3, none⟩ = some (.bool d) := cell_of_row _ _ _ _ _ (0, 0) HB2.out.r0
            have c0_4 : w2.cell? ⟨w.heap.size, 4, none⟩ = some (.int .i64 e) := cell_of_row _ _ _ _ _ (0, 0) HB2.out.r0
            go_wp2_with fail
            go_ret
            exact ⟨by simp, HB2.out.below⟩
          · have HB0 := Lib.hid (bxs1 w (.cells #[.int .i64 1, .int .i64 b, .int .i64 c, .bool d, .int .i64 e] 25))
            go_enter Try.func10, Try.ntmps10
            go_wp2_with fail
            refine (F1.out _).mono ?_
            rintro e w1 ⟨rfl, hb1⟩
            have HB1 := Lib.hid (HB0.out.next hb1)
            clear hb1 HB0
            have c0_0 : w1.cell? ⟨w.heap.size, 0, none⟩ = some (.int .i64 1) := cell_of_row _ _ _ _ _ (0, 0) HB1.out.r0
            have c0_1 : w1.cell? ⟨w.heap.size, 1, none⟩ = some (.int .i64 b) := cell_of_row _ _ _ _ _ (0, 0) HB1.out.r0
            have c0_2 : w1.cell? ⟨w.heap.size, 2, none⟩ = some (.int .i64 c) := cell_of_row _ _ _ _ _ (0, 0) HB1.out.r0
            have c0_3 : w1.cell? ⟨w.heap.size, 3, none⟩ = some (.bool d) := cell_of_row _ _ _ _ _ (0, 0) HB1.out.r0
            have c0_4 : w1.cell? ⟨w.heap.size, 4, none⟩ = some (.int .i64 e) := cell_of_row _ _ _ _ _ (0, 0) HB1.out.r0
            go_wp2_with fail
            refine (F2.out _).mono ?_
            rintro e w2 ⟨rfl, hb2⟩
            have HB2 := Lib.hid (HB1.out.next hb2)
            clear c0_0 c0_1 c0_2 c0_3 c0_4 hb2 HB1
            have c0_0 : w2.cell? ⟨w.heap.size, 0, none⟩ = some (.int .i64 1) := cell_of_row _ _ _ _ _ (0, 0) HB2.out.r0
            have c0_1 : w2.cell? ⟨w.heap.size, 1, none⟩ = some (.int .i64 b) := cell_of_row _ _ _ _ _ (0, 0) HB2.out.r0
            have c0_2 : w2.cell? ⟨w.heap.size, 2, none⟩ = some (.int .i64 c) := cell_of_row _ _ _ _ _ (0, 0) HB2.out.r0
            have c0_3 : w2.cell? ⟨w.heap.size, 3, none⟩ = some (.bool d) := cell_of_row _ _ _ _ _ (0, 0) HB2.out.r0
            have c0_4 : w2.cell? ⟨w.heap.size, 4, none⟩ = some (.int .i64 e) := cell_of_row _ _ _ _ _ (0, 0) HB2.out.r0
            go_wp2_with fail
            refine (F3.out _).mono ?_
            rintro e w3 ⟨rfl, hb3⟩
            have HB3 := Lib.hid (HB2.out.next hb3)
            clear c0_0 c0_1 c0_2 c0_3 c0_4 hb3 HB2
            have c0_0 : w3.cell? ⟨w.heap.size, 0, none⟩ = some (.int .i64 1) := cell_of_row _ _ _ _ _ (0, 0) HB3.out.r0
            have c0_1 : w3.cell? ⟨w.heap.size, 1, none⟩ = some (.int .i64 b) := cell_of_row _ _ _ _ _ (0, 0) HB3.out.r0
            have c0_2 : w3.cell? ⟨w.heap.size, 2, none⟩ = some (.int .i64 c) := cell_of_row _ _ _ _ _ (0, 0) HB3.out.r0
            have c0_3 : w3.cell? ⟨w.heap.size, 3, none⟩ = some (.bool d) := cell_of_row _ _ _ _ _ (0, 0) HB3.out.r0
            have c0_4 : w3.cell? ⟨w.heap.size, 4, none⟩ = some (.int .i64 e) := cell_of_row _ _ _ _ _ (0, 0) HB3.out.r0
            go_wp2_with fail
            go_ret
            exact ⟨by simp, HB3.out.below⟩
      · cases x
        · have HB0 := Lib.hid (bxs1 w (.cells #[.int .i64 2, .int .i64 b, .int .i64 c, .bool d, .int .i64 e] 25))
          go_enter Try.func10, Try.ntmps10
          go_wp2_with fail
          refine (F1.out _).mono ?_
          rintro e w1 ⟨rfl, hb1⟩
          have HB1 := Lib.hid (HB0.out.next hb1)
          clear hb1 HB0
          have c0_0 : w1.cell? ⟨w.heap.size, 0, none⟩ = some (.int .i64 2) := cell_of_row _ _ _ _ _ (0, 0) HB1.out.r0
          have c0_1 : w1.cell? ⟨w.heap.size, 1, none⟩ = some (.int .i64 b) := cell_of_row _ _ _ _ _ (0, 0) HB1.out.r0
          have c0_2 : w1.cell? ⟨w.heap.size, 2, none⟩ = some (.int .i64 c) := cell_of_row _ _ _ _ _ (0, 0) HB1.out.r0
          have c0_3 : w1.cell? ⟨w.heap.size, 3, none⟩ = some (.bool d) := cell_of_row _ _ _ _ _ (0, 0) HB1.out.r0
          have c0_4 : w1.cell? ⟨w.heap.size, 4, none⟩ = some (.int .i64 e) := cell_of_row _ _ _ _ _ (0, 0) HB1.out.r0
          go_wp2_with fail
          go_ret
          exact ⟨by simp, HB1.out.below⟩
        · cases y
          · have HB0 := Lib.hid (bxs1 w (.cells #[.int .i64 2, .int .i64 b, .int .i64 c, .bool d, .int .i64 e] 25))
            go_enter Try.func10, Try.ntmps10
            go_wp2_with fail
            refine (F1.out _).mono ?_
            rintro e w1 ⟨rfl, hb1⟩
            have HB1 := Lib.hid (HB0.out.next hb1)
            clear hb1 HB0
            have c0_0 : w1.cell? ⟨w.heap.size, 0, none⟩ = some (.int .i64 2) := cell_of_row _ _ _ _ _ (0, 0) HB1.out.r0
            have c0_1 : w1.cell? ⟨w.heap.size, 1, none⟩ = some (.int .i64 b) := cell_of_row _ _ _ _ _ (0, 0) HB1.out.r0
            have c0_2 : w1.cell? ⟨w.heap.size, 2, none⟩ = some (.int .i64 c) := cell_of_row _ _ _ _ _ (0, 0) HB1.out.r0
            have c0_3 : w1.cell? ⟨w.heap.size, 3, none⟩ = some (.bool d) := cell_of_row _ _ _ _ _ (0, 0) HB1.out.r0
            have c0_4 : w1.cell? ⟨w.heap.size, 4, none⟩ = some (.int .i64 e) := cell_of_row _ _ _ _ _ (0, 0) HB1.out.r0
            go_wp2_with fail
            refine (F2.out _).mono ?_
            rintro e w2 ⟨rfl, hb2⟩
            have HB2 := Lib.hid (HB1.out.next hb2)
            clear c0_0 c0_1 c0_2 c0_3 c0_4 hb2 HB1
            have c0_0 : w2.cell? ⟨w.heap.size, 0, none⟩ = some (.int .i64 2) := cell_of_row _ _ _ _ _ (0, 0) HB2.out.r0
            have c0_1 : w2.cell? ⟨w.heap.size, 1, none⟩ = some (.int .i64 b) := cell_of_row _ _ _ _ _ (0, 0) HB2.out.r0
            have c0_2 : w2.cell? ⟨w.heap.size, 2, none⟩ = some (.int .i64 c) := cell_of_row _ _ _ _ _ (0, 0) HB2.out.r0
            have c0_3 : w2.cell? ⟨w.heap.size, 3, none⟩ = some (.bool d) := cell_of_row _ _ _ _ _ (0, 0) HB2.out.r0
            have c0_4 : w2.cell? ⟨w.heap.size, 4, none⟩ = some (.int .i64 e) := cell_of_row _ _ _ _ _ (0, 0) HB2.out.r0
            go_wp2_with fail
            go_ret
            exact ⟨by simp, HB2.out.below⟩
          · have HB0 := Lib.hid (bxs1 w (.cells #[.int .i64 2, .int .i64 b, .int .i64 c, .bool d, .int .i64 e] 25))
            go_enter Try.func10, Try.ntmps10
            go_wp2_with fail
            refine (F1.out _).mono ?_
            rintro e w1 ⟨rfl, hb1⟩
            have HB1 := Lib.hid (HB0.out.next hb1)
            clear hb1 HB0
            have c0_0 : w1.cell? ⟨w.heap.size, 0, none⟩ = some (.int .i64 2) := cell_of_row _ _ _ _ _ (0, 0) HB1.out.r0
            have c0_1 : w1.cell? ⟨w.heap.size, 1, none⟩ = some (.int .i64 b) := cell_of_row _ _ _ _ _ (0, 0) HB1.out.r0
            have c0_2 : w1.cell? ⟨w.heap.size, 2, none⟩ = some (.int .i64 c) := cell_of_row _ _ _ _ _ (0, 0) HB1.out.r0
            have c0_3 : w1.cell? ⟨w.heap.size, 3, none⟩ = some (.bool d) := cell_of_row _ _ _ _ _ (0, 0) HB1.out.r0
            have c0_4 : w1.cell? ⟨w.heap.size, 4, none⟩ = some (.int .i64 e) := cell_of_row _ _ _ _ _ (0, 0) HB1.out.r0
            go_wp2_with fail
            refine (F2.out _).mono ?_
            rintro e w2 ⟨rfl, hb2⟩
            have HB2 := Lib.hid (HB1.out.next hb2)
            clear c0_0 c0_1 c0_2 c0_3 c0_4 hb2 HB1
            have c0_0 : w2.cell? ⟨w.heap.size, 0, none⟩ = some (.int .i64 2) := cell_of_row _ _ _ _ _ (0, 0) HB2.out.r0
            have c0_1 : w2.cell? ⟨w.heap.size, 1, none⟩ = some (.int .i64 b) := cell_of_row _ _ _ _ _ (0, 0) HB2.out.r0
            have c0_2 : w2.cell? ⟨w.heap.size, 2, none⟩ = some (.int .i64 c) := cell_of_row _ _ _ _ _ (0, 0) HB2.out.r0
            have c0_3 : w2.cell? ⟨w.heap.size, 3, none⟩ = some (.bool d) := cell_of_row _ _ _ _ _ (0, 0) HB2.out.r0
            have c0_4 : w2.cell? ⟨w.heap.size, 4, none⟩ = some (.int .i64 e) := cell_of_row _ _ _ _ _ (0, 0) HB2.out.r0
            go_wp2_with fail
            refine (F3.out _).mono ?_
            rintro e w3 ⟨rfl, hb3⟩
            have HB3 := Lib.hid (HB2.out.next hb3)
            clear c0_0 c0_1 c0_2 c0_3 c0_4 hb3 HB2
            have c0_0 : w3.cell? ⟨w.heap.size, 0, none⟩ = some (.int .i64 2) := cell_of_row _ _ _ _ _ (0, 0) HB3.out.r0
            have c0_1 : w3.cell? ⟨w.heap.size, 1, none⟩ = some (.int .i64 b) := cell_of_row _ _ _ _ _ (0, 0) HB3.out.r0
            have c0_2 : w3.cell? ⟨w.heap.size, 2, none⟩ = some (.int .i64 c) := cell_of_row _ _ _ _ _ (0, 0) HB3.out.r0
            have c0_3 : w3.cell? ⟨w.heap.size, 3, none⟩ = some (.bool d) := cell_of_row _ _ _ _ _ (0, 0) HB3.out.r0
            have c0_4 : w3.cell? ⟨w.heap.size, 4, none⟩ = some (.int .i64 e) := cell_of_row _ _ _ _ _ (0, 0) HB3.out.r0
            go_wp2_with fail
            go_ret
            exact ⟨by simp, HB3.out.below⟩
      · cases x
        · have HB0 := Lib.hid (bxs1 w (.cells #[.int .i64 3, .int .i64 b, .int .i64 c, .bool d, .int .i64 e] 25))
          go_enter Try.func10, Try.ntmps10
          go_wp2_with fail
          refine (F1.out _).mono ?_
          rintro e w1 ⟨rfl, hb1⟩
          have HB1 := Lib.hid (HB0.out.next hb1)
          clear hb1 HB0
          have c0_0 : w1.cell? ⟨w.heap.size, 0, none⟩ = some (.int .i64 3) := cell_of_row _ _ _ _ _ (0, 0) HB1.out.r0
          have c0_1 : w1.cell? ⟨w.heap.size, 1, none⟩ = some (.int .i64 b) := cell_of_row _ _ _ _ _ (0, 0) HB1.out.r0
          have c0_2 : w1.cell? ⟨w.heap.size, 2, none⟩ = some (.int .i64 c) := cell_of_row _ _ _ _ _ (0, 0) HB1.out.r0
          have c0_3 : w1.cell? ⟨w.heap.size, 3, none⟩ = some (.bool d) := cell_of_row _ _ _ _ _ (0, 0) HB1.out.r0
          have c0_4 : w1.cell? ⟨w.heap.size, 4, none⟩ = some (.int .i64 e) := cell_of_row _ _ _ _ _ (0, 0) HB1.out.r0
          go_wp2_with fail
          go_ret
          exact ⟨by simp, HB1.out.below⟩
        · cases y
          · have HB0 := Lib.hid (bxs1 w (.cells #[.int .i64 3, .int .i64 b, .int .i64 c, .bool d, .int .i64 e] 25))
            go_enter Try.func10, Try.ntmps10
            go_wp2_with fail
            refine (F1.out _).mono ?_
            rintro e w1 ⟨rfl, hb1⟩
            have HB1 := Lib.hid (HB0.out.next hb1)
            clear hb1 HB0
            have c0_0 : w1.cell? ⟨w.heap.size, 0, none⟩ = some (.int .i64 3) := cell_of_row _ _ _ _ _ (0, 0) HB1.out.r0
            have c0_1 : w1.cell? ⟨w.heap.size, 1, none⟩ = some (.int .i64 b) := cell_of_row _ _ _ _ _ (0, 0) HB1.out.r0
            have c0_2 : w1.cell? ⟨w.heap.size, 2, none⟩ = some (.int .i64 c) := cell_of_row _ _ _ _ _ (0, 0) HB1.out.r0
            have c0_3 : w1.cell? ⟨w.heap.size, 3, none⟩ = some (.bool d) := cell_of_row _ _ _ _ _ (0, 0) HB1.out.r0
            have c0_4 : w1.cell? ⟨w.heap.size, 4, none⟩ = some (.int .i64 e) := cell_of_row _ _ _ _ _ (0, 0) HB1.out.r0
            go_wp2_with fail
            refine (F2.out _).mono ?_
            rintro e w2 ⟨rfl, hb2⟩
            have HB2 := Lib.hid (HB1.out.next hb2)
            clear c0_0 c0_1 c0_2 c0_3 c0_4 hb2 HB1
            have c0_0 : w2.cell? ⟨w.heap.size, 0, none⟩ = some (.int .i64 3) := cell_of_row _ _ _ _ _ (0, 0) HB2.out.r0
            have c0_1 : w2.cell? ⟨w.heap.size, 1, none⟩ = some (.int .i64 b) := cell_of_row _ _ _ _ _ (0, 0) HB2.out.r0
            have c0_2 : w2.cell? ⟨w.heap.size, 2, none⟩ = some (.int .i64 c) := cell_of_row _ _ _ _ _ (0, 0) HB2.out.r0
            have c0_3 : w2.cell? ⟨w.heap.size, 3, none⟩ = some (.bool d) := cell_of_row _ _ _ _ _ (0, 0) HB2.out.r0
            have c0_4 : w2.cell? ⟨w.heap.size, 4, none⟩ = some (.int .i64 e) := cell_of_row _ _ _ _ _ (0, 0) HB2.out.r0
            go_wp2_with fail
            go_ret
            exact ⟨by simp, HB2.out.below⟩
          · have HB0 := Lib.hid (bxs1 w (.cells #[.int .i64 3, .int .i64 b, .int .i64 c, .bool d, .int .i64 e] 25))
            go_enter Try.func10, Try.ntmps10
            go_wp2_with fail
            refine (F1.out _).mono ?_
            rintro e w1 ⟨rfl, hb1⟩
            have HB1 := Lib.hid (HB0.out.next hb1)
            clear hb1 HB0
            have c0_0 : w1.cell? ⟨w.heap.size, 0, none⟩ = some (.int .i64 3) := cell_of_row _ _ _ _ _ (0, 0) HB1.out.r0
            have c0_1 : w1.cell? ⟨w.heap.size, 1, none⟩ = some (.int .i64 b) := cell_of_row _ _ _ _ _ (0, 0) HB1.out.r0
            have c0_2 : w1.cell? ⟨w.heap.size, 2, none⟩ = some (.int .i64 c) := cell_of_row _ _ _ _ _ (0, 0) HB1.out.r0
            have c0_3 : w1.cell? ⟨w.heap.size, 3, none⟩ = some (.bool d) := cell_of_row _ _ _ _ _ (0, 0) HB1.out.r0
            have c0_4 : w1.cell? ⟨w.heap.size, 4, none⟩ = some (.int .i64 e) := cell_of_row _ _ _ _ _ (0, 0) HB1.out.r0
            go_wp2_with fail
            refine (F2.out _).mono ?_
            rintro e w2 ⟨rfl, hb2⟩
            have HB2 := Lib.hid (HB1.out.next hb2)
            clear c0_0 c0_1 c0_2 c0_3 c0_4 hb2 HB1
            have c0_0 : w2.cell? ⟨w.heap.size, 0, none⟩ = some (.int .i64 3) := cell_of_row _ _ _ _ _ (0, 0) HB2.out.r0
            have c0_1 : w2.cell? ⟨w.heap.size, 1, none⟩ = some (.int .i64 b) := cell_of_row _ _ _ _ _ (0, 0) HB2.out.r0
            have c0_2 : w2.cell? ⟨w.heap.size, 2, none⟩ = some (.int .i64 c) := cell_of_row _ _ _ _ _ (0, 0) HB2.out.r0
            have c0_3 : w2.cell? ⟨w.heap.size, 3, none⟩ = some (.bool d) := cell_of_row _ _ _ _ _ (0, 0) HB2.out.r0
            have c0_4 : w2.cell? ⟨w.heap.size, 4, none⟩ = some (.int .i64 e) := cell_of_row _ _ _ _ _ (0, 0) HB2.out.r0
            go_wp2_with fail
            refine (F3.out _).mono ?_
            rintro e w3 ⟨rfl, hb3⟩
            have HB3 := Lib.hid (HB2.out.next hb3)
            clear c0_0 c0_1 c0_2 c0_3 c0_4 hb3 HB2
            have c0_0 : w3.cell? ⟨w.heap.size, 0, none⟩ = some (.int .i64 3) := cell_of_row _ _ _ _ _ (0, 0) HB3.out.r0
            have c0_1 : w3.cell? ⟨w.heap.size, 1, none⟩ = some (.int .i64 b) := cell_of_row _ _ _ _ _ (0, 0) HB3.out.r0
            have c0_2 : w3.cell? ⟨w.heap.size, 2, none⟩ = some (.int .i64 c) := cell_of_row _ _ _ _ _ (0, 0) HB3.out.r0
            have c0_3 : w3.cell? ⟨w.heap.size, 3, none⟩ = some (.bool d) := cell_of_row _ _ _ _ _ (0, 0) HB3.out.r0
            have c0_4 : w3.cell? ⟨w.heap.size, 4, none⟩ = some (.int .i64 e) := cell_of_row _ _ _ _ _ (0, 0) HB3.out.r0
            go_wp2_with fail
            go_ret
            exact ⟨by simp, HB3.out.below⟩
    · have hB : Dr.isB ⟨a, b, c, d, e⟩ = false := by
        unfold Dr.isB
        rw [if_neg h0]
        have : ¬ (1 ≤ a ∧ a ≤ 3) := by omega
        by_cases h2 : 1 ≤ a
        · simp [show ¬ a ≤ 3 by omega]
        · simp [h2]
      rw [hB]
      have ha1 : ¬ a = 1 := fun h => h1 (.inl h)
      have ha2 : ¬ a = 2 := fun h => h1 (.inr (.inl h))
      have ha3 : ¬ a = 3 := fun h => h1 (.inr (.inr h))
      have hr : ¬ 0 < a ∨ (0 < a ∧ ¬ a ≤ 3) := by omega
      clear h1 hB
      rcases hr with hr | ⟨hr, hr2⟩
      all_goals
        go_enter Try.func10, Try.ntmps10
        go_wp2_with fail
        go_ret
        exact ⟨rfl, by go_grown⟩
theorem late_any (t0 t1 t2 t3 t4 t5 t6 t7 t8 : Int) (a b c : Int) (d : Bool) (e : Int) (w : World) :
    Calls Try.prog 13 #[.agg #[.int .i64 t0, .int .i64 t1, .int .i64 t2, .int .i64 t3, .int .i64 t4, .int .i64 t5, .int .i64 t6, .int .i64 t7, .int .i64 t8], .agg #[.int .i64 a, .int .i64 b, .int .i64 c, .bool d, .int .i64 e]] w fun ee w' => ee = .returned (.bool (Dr.late t5 ⟨a, b, c, d, e⟩)) ∧ Below w.heap.size w w' := by
  have hl : Dr.late t5 ⟨a, b, c, d, e⟩ = ((a == 1 || a == 3) && decide (t5 < b)) := rfl
  rw [hl]
  clear hl
  by_cases hb : t5 < b
  all_goals
    have hd := hb
    first
      | rw [decide_eq_true hd]
      | rw [decide_eq_false hd]
    by_cases h1 : a = 1
    · subst h1
      go_enter Try.func13, Try.ntmps13
      go_wp2_with fail
      go_ret
      exact ⟨rfl, by go_grown⟩
    · by_cases h3 : a = 3
      · subst h3
        go_enter Try.func13, Try.ntmps13
        go_wp2_with fail
        go_ret
        exact ⟨rfl, by go_grown⟩
      · rw [show (a == 1 || a == 3) = false by simp [h1, h3]]
        go_enter Try.func13, Try.ntmps13
        go_wp2_with fail
        go_ret
        exact ⟨rfl, by go_grown⟩
theorem refLate_any (t0 t1 t2 t3 t4 t5 t6 t7 t8 : Int) (a b c : Int) (d : Bool) (e : Int) (w : World) :
    Calls Try.prog 14 #[.agg #[.int .i64 t0, .int .i64 t1, .int .i64 t2, .int .i64 t3, .int .i64 t4, .int .i64 t5, .int .i64 t6, .int .i64 t7, .int .i64 t8], .agg #[.int .i64 a, .int .i64 b, .int .i64 c, .bool d, .int .i64 e]] w fun ee w' => ee = .returned (.bool (Dr.late t5 ⟨a, b, c, d, e⟩)) ∧ Below w.heap.size w w' := by
  have hl : Dr.late t5 ⟨a, b, c, d, e⟩ = ((a == 1 || a == 3) && decide (t5 < b)) := rfl
  rw [hl]
  clear hl
  by_cases hb : t5 < b
  all_goals
    have hd := hb
    first
      | rw [decide_eq_true hd]
      | rw [decide_eq_false hd]
    by_cases h1 : a = 1
    · subst h1
      go_enter Try.func14, Try.ntmps14
      go_wp2_with fail
      go_ret
      exact ⟨rfl, by go_grown⟩
    · by_cases h3 : a = 3
      · subst h3
        go_enter Try.func14, Try.ntmps14
        go_wp2_with fail
        go_ret
        exact ⟨rfl, by go_grown⟩
      · rw [show (a == 1 || a == 3) = false by simp [h1, h3]]
        go_enter Try.func14, Try.ntmps14
        go_wp2_with fail
        go_ret
        exact ⟨rfl, by go_grown⟩
theorem skip_any (a b c : Int) (d : Bool) (e : Int) (w : World) :
    Calls Try.prog 11 #[.agg #[.int .i64 a, .int .i64 b, .int .i64 c, .bool d, .int .i64 e]] w fun ee w' => ee = .returned ((Dr.skipF ⟨a, b, c, d, e⟩).agg) ∧ Below w.heap.size w w' := by
  have F := Lib.hid (fun wx => isState_any a b c d e wx)
  by_cases hB : Dr.isB ⟨a, b, c, d, e⟩ = true
  · rw [hB] at F
    by_cases h0 : a = 0
    · rw [show Dr.skipF ⟨a, b, c, d, e⟩ = ⟨a, b, c, d, e⟩ from if_neg (fun h => h.2 h0)]
      subst h0
      clear hB
      have HB0 := Lib.hid (bxs2 w (.cells #[.int .i64 0, .int .i64 b, .int .i64 c, .bool d, .int .i64 e] 25) (.cells #[.int .i64 0, .int .i64 0, .int .i64 0, .bool false, .int .i64 0] 25))
      go_enter Try.func11, Try.ntmps11
      go_wp2_with fail
      refine (F.out _).mono ?_
      rintro e w1 ⟨rfl, hb1⟩
      have HB1 := Lib.hid (HB0.out.next hb1)
      clear hb1 HB0
      have c0_0 : w1.cell? ⟨w.heap.size, 0, none⟩ = some (.int .i64 0) := cell_of_row _ _ _ _ _ (0, 0) HB1.out.r0
      have c0_1 : w1.cell? ⟨w.heap.size, 1, none⟩ = some (.int .i64 b) := cell_of_row _ _ _ _ _ (0, 0) HB1.out.r0
      have c0_2 : w1.cell? ⟨w.heap.size, 2, none⟩ = some (.int .i64 c) := cell_of_row _ _ _ _ _ (0, 0) HB1.out.r0
      have c0_3 : w1.cell? ⟨w.heap.size, 3, none⟩ = some (.bool d) := cell_of_row _ _ _ _ _ (0, 0) HB1.out.r0
      have c0_4 : w1.cell? ⟨w.heap.size, 4, none⟩ = some (.int .i64 e) := cell_of_row _ _ _ _ _ (0, 0) HB1.out.r0
      have c1_0 : w1.cell? ⟨w.heap.size + 1, 0, none⟩ = some (.int .i64 0) := cell_of_row _ _ _ _ _ (0, 0) HB1.out.r1
      have c1_1 : w1.cell? ⟨w.heap.size + 1, 1, none⟩ = some (.int .i64 0) := cell_of_row _ _ _ _ _ (0, 0) HB1.out.r1
      have c1_2 : w1.cell? ⟨w.heap.size + 1, 2, none⟩ = some (.int .i64 0) := cell_of_row _ _ _ _ _ (0, 0) HB1.out.r1
      have c1_3 : w1.cell? ⟨w.heap.size + 1, 3, none⟩ = some (.bool false) := cell_of_row _ _ _ _ _ (0, 0) HB1.out.r1
      have c1_4 : w1.cell? ⟨w.heap.size + 1, 4, none⟩ = some (.int .i64 0) := cell_of_row _ _ _ _ _ (0, 0) HB1.out.r1
      go_wp2_with (with_reducible show wpList _ _ _ (Oper.mk _ (.store 25 _ _) _ _ _ _ :: _) _ _; refine Hid.out ?_)
      refine Lib.hid ?_
      refine wpList_put rfl 25 _ _ rfl (w.heap.size + 1) #[.int .i64 0, .int .i64 b, .int .i64 c, .bool d, .int .i64 e] _ 25 rfl rfl HB1.out.r1 (by kernel_rfl) rfl (by kernel_rfl) ?_
      intro w2 hr2 hg2
      have HB2 : Hid (Bx w [(w.heap.size, .cells #[.int .i64 0, .int .i64 b, .int .i64 c, .bool d, .int .i64 e] 25 (0, 0)), (w.heap.size + 1, .cells #[.int .i64 0, .int .i64 b, .int .i64 c, .bool d, .int .i64 e] 25 (0, 0))] w2) := Lib.hid (HB1.out.put (by omega) hg2.out hr2.out (by simp only [List.mem_cons, List.not_mem_nil, or_false]; rintro p (rfl | rfl) <;> simp <;> omega))
      clear c0_0 c0_1 c0_2 c0_3 c0_4 c1_0 c1_1 c1_2 c1_3 c1_4 hr2 hg2 HB1
      have c0_0 : w2.cell? ⟨w.heap.size, 0, none⟩ = some (.int .i64 0) := cell_of_row _ _ _ _ _ (0, 0) HB2.out.r0
      have c0_1 : w2.cell? ⟨w.heap.size, 1, none⟩ = some (.int .i64 b) := cell_of_row _ _ _ _ _ (0, 0) HB2.out.r0
      have c0_2 : w2.cell? ⟨w.heap.size, 2, none⟩ = some (.int .i64 c) := cell_of_row _ _ _ _ _ (0, 0) HB2.out.r0
      have c0_3 : w2.cell? ⟨w.heap.size, 3, none⟩ = some (.bool d) := cell_of_row _ _ _ _ _ (0, 0) HB2.out.r0
      have c0_4 : w2.cell? ⟨w.heap.size, 4, none⟩ = some (.int .i64 e) := cell_of_row _ _ _ _ _ (0, 0) HB2.out.r0
      have c1_0 : w2.cell? ⟨w.heap.size + 1, 0, none⟩ = some (.int .i64 0) := cell_of_row _ _ _ _ _ (0, 0) HB2.out.r1
      have c1_1 : w2.cell? ⟨w.heap.size + 1, 1, none⟩ = some (.int .i64 b) := cell_of_row _ _ _ _ _ (0, 0) HB2.out.r1
      have c1_2 : w2.cell? ⟨w.heap.size + 1, 2, none⟩ = some (.int .i64 c) := cell_of_row _ _ _ _ _ (0, 0) HB2.out.r1
      have c1_3 : w2.cell? ⟨w.heap.size + 1, 3, none⟩ = some (.bool d) := cell_of_row _ _ _ _ _ (0, 0) HB2.out.r1
      have c1_4 : w2.cell? ⟨w.heap.size + 1, 4, none⟩ = some (.int .i64 e) := cell_of_row _ _ _ _ _ (0, 0) HB2.out.r1
      go_wp2_with fail
      exact bodyPost_ret (results_cell_row Try.results11 _ _ _ _ _ (0, 0) _ rfl (HB2.out.r1) Try.underlying25 rfl (by kernel_rfl)) rfl (⟨rfl, HB2.out.below⟩)
    · rw [show Dr.skipF ⟨a, b, c, d, e⟩ = ⟨a, Dr.more b, Dr.next c, d, e⟩ from if_pos ⟨hB, h0⟩]
      obtain ⟨-, hb, hc, -⟩ := (Dr.isB_iff h0).1 hB
      clear hB
      simp only at hb hc
      have FN := Lib.hid (fun wx => nextSince_any c wx hc)
      generalize Dr.next c = n at *
      have FL := Lib.hid (fun wx => longer_any a b n d e wx hb)
      generalize Dr.more b = m at *
      clear hb hc
      have HB0 := Lib.hid (bxs2 w (.cells #[.int .i64 a, .int .i64 b, .int .i64 c, .bool d, .int .i64 e] 25) (.cells #[.int .i64 0, .int .i64 0, .int .i64 0, .bool false, .int .i64 0] 25))
      go_enter Try.func11, Try.ntmps11
      go_wp2_with fail
      refine (F.out _).mono ?_
      rintro e w1 ⟨rfl, hb1⟩
      have HB1 := Lib.hid (HB0.out.next hb1)
      clear hb1 HB0
      have c0_0 : w1.cell? ⟨w.heap.size, 0, none⟩ = some (.int .i64 a) := cell_of_row _ _ _ _ _ (0, 0) HB1.out.r0
      have c0_1 : w1.cell? ⟨w.heap.size, 1, none⟩ = some (.int .i64 b) := cell_of_row _ _ _ _ _ (0, 0) HB1.out.r0
      have c0_2 : w1.cell? ⟨w.heap.size, 2, none⟩ = some (.int .i64 c) := cell_of_row _ _ _ _ _ (0, 0) HB1.out.r0
      have c0_3 : w1.cell? ⟨w.heap.size, 3, none⟩ = some (.bool d) := cell_of_row _ _ _ _ _ (0, 0) HB1.out.r0
      have c0_4 : w1.cell? ⟨w.heap.size, 4, none⟩ = some (.int .i64 e) := cell_of_row _ _ _ _ _ (0, 0) HB1.out.r0
      have c1_0 : w1.cell? ⟨w.heap.size + 1, 0, none⟩ = some (.int .i64 0) := cell_of_row _ _ _ _ _ (0, 0) HB1.out.r1
      have c1_1 : w1.cell? ⟨w.heap.size + 1, 1, none⟩ = some (.int .i64 0) := cell_of_row _ _ _ _ _ (0, 0) HB1.out.r1
      have c1_2 : w1.cell? ⟨w.heap.size + 1, 2, none⟩ = some (.int .i64 0) := cell_of_row _ _ _ _ _ (0, 0) HB1.out.r1
      have c1_3 : w1.cell? ⟨w.heap.size + 1, 3, none⟩ = some (.bool false) := cell_of_row _ _ _ _ _ (0, 0) HB1.out.r1
      have c1_4 : w1.cell? ⟨w.heap.size + 1, 4, none⟩ = some (.int .i64 0) := cell_of_row _ _ _ _ _ (0, 0) HB1.out.r1
      go_wp2_with fail
      refine (FN.out _).mono ?_
      rintro e w2 ⟨rfl, hb2⟩
      have HB2 := Lib.hid (HB1.out.next hb2)
      clear c0_0 c0_1 c0_2 c0_3 c0_4 c1_0 c1_1 c1_2 c1_3 c1_4 hb2 HB1
      have c0_0 : w2.cell? ⟨w.heap.size, 0, none⟩ = some (.int .i64 a) := cell_of_row _ _ _ _ _ (0, 0) HB2.out.r0
      have c0_1 : w2.cell? ⟨w.heap.size, 1, none⟩ = some (.int .i64 b) := cell_of_row _ _ _ _ _ (0, 0) HB2.out.r0
      have c0_2 : w2.cell? ⟨w.heap.size, 2, none⟩ = some (.int .i64 c) := cell_of_row _ _ _ _ _ (0, 0) HB2.out.r0
      have c0_3 : w2.cell? ⟨w.heap.size, 3, none⟩ = some (.bool d) := cell_of_row _ _ _ _ _ (0, 0) HB2.out.r0
      have c0_4 : w2.cell? ⟨w.heap.size, 4, none⟩ = some (.int .i64 e) := cell_of_row _ _ _ _ _ (0, 0) HB2.out.r0
      have c1_0 : w2.cell? ⟨w.heap.size + 1, 0, none⟩ = some (.int .i64 0) := cell_of_row _ _ _ _ _ (0, 0) HB2.out.r1
      have c1_1 : w2.cell? ⟨w.heap.size + 1, 1, none⟩ = some (.int .i64 0) := cell_of_row _ _ _ _ _ (0, 0) HB2.out.r1
      have c1_2 : w2.cell? ⟨w.heap.size + 1, 2, none⟩ = some (.int .i64 0) := cell_of_row _ _ _ _ _ (0, 0) HB2.out.r1
      have c1_3 : w2.cell? ⟨w.heap.size + 1, 3, none⟩ = some (.bool false) := cell_of_row _ _ _ _ _ (0, 0) HB2.out.r1
      have c1_4 : w2.cell? ⟨w.heap.size + 1, 4, none⟩ = some (.int .i64 0) := cell_of_row _ _ _ _ _ (0, 0) HB2.out.r1
      go_wp2_with (with_reducible show wpList _ _ _ (Oper.mk _ (.store 3 _ _) _ _ _ _ :: _) _ _; refine Hid.out ?_)
      refine Lib.hid ?_
      refine wpList_putCell rfl 3 _ _ rfl (w.heap.size) 2 (.int .i64 n) _ _ 25 rfl rfl HB2.out.r0 (by kernel_rfl) (by simp) rfl rfl rfl ?_
      intro w3 hr3 hg3
      have HB3 : Hid (Bx w [(w.heap.size, .cells #[.int .i64 a, .int .i64 b, .int .i64 n, .bool d, .int .i64 e] 25 (0, 0)), (w.heap.size + 1, .cells #[.int .i64 0, .int .i64 0, .int .i64 0, .bool false, .int .i64 0] 25 (0, 0))] w3) := Lib.hid (HB2.out.put (by omega) hg3.out hr3.out (by simp only [List.mem_cons, List.not_mem_nil, or_false]; rintro p (rfl | rfl) <;> simp <;> omega))
      clear c0_0 c0_1 c0_2 c0_3 c0_4 c1_0 c1_1 c1_2 c1_3 c1_4 hr3 hg3 HB2
      have c0_0 : w3.cell? ⟨w.heap.size, 0, none⟩ = some (.int .i64 a) := cell_of_row _ _ _ _ _ (0, 0) HB3.out.r0
      have c0_1 : w3.cell? ⟨w.heap.size, 1, none⟩ = some (.int .i64 b) := cell_of_row _ _ _ _ _ (0, 0) HB3.out.r0
      have c0_2 : w3.cell? ⟨w.heap.size, 2, none⟩ = some (.int .i64 n) := cell_of_row _ _ _ _ _ (0, 0) HB3.out.r0
      have c0_3 : w3.cell? ⟨w.heap.size, 3, none⟩ = some (.bool d) := cell_of_row _ _ _ _ _ (0, 0) HB3.out.r0
      have c0_4 : w3.cell? ⟨w.heap.size, 4, none⟩ = some (.int .i64 e) := cell_of_row _ _ _ _ _ (0, 0) HB3.out.r0
      have c1_0 : w3.cell? ⟨w.heap.size + 1, 0, none⟩ = some (.int .i64 0) := cell_of_row _ _ _ _ _ (0, 0) HB3.out.r1
      have c1_1 : w3.cell? ⟨w.heap.size + 1, 1, none⟩ = some (.int .i64 0) := cell_of_row _ _ _ _ _ (0, 0) HB3.out.r1
      have c1_2 : w3.cell? ⟨w.heap.size + 1, 2, none⟩ = some (.int .i64 0) := cell_of_row _ _ _ _ _ (0, 0) HB3.out.r1
      have c1_3 : w3.cell? ⟨w.heap.size + 1, 3, none⟩ = some (.bool false) := cell_of_row _ _ _ _ _ (0, 0) HB3.out.r1
      have c1_4 : w3.cell? ⟨w.heap.size + 1, 4, none⟩ = some (.int .i64 0) := cell_of_row _ _ _ _ _ (0, 0) HB3.out.r1
      go_wp2_with fail
      refine (FL.out _).mono ?_
      rintro e w4 ⟨rfl, hb4⟩
      have HB4 := Lib.hid (HB3.out.next hb4)
      clear c0_0 c0_1 c0_2 c0_3 c0_4 c1_0 c1_1 c1_2 c1_3 c1_4 hb4 HB3
      have c0_0 : w4.cell? ⟨w.heap.size, 0, none⟩ = some (.int .i64 a) := cell_of_row _ _ _ _ _ (0, 0) HB4.out.r0
      have c0_1 : w4.cell? ⟨w.heap.size, 1, none⟩ = some (.int .i64 b) := cell_of_row _ _ _ _ _ (0, 0) HB4.out.r0
      have c0_2 : w4.cell? ⟨w.heap.size, 2, none⟩ = some (.int .i64 n) := cell_of_row _ _ _ _ _ (0, 0) HB4.out.r0
      have c0_3 : w4.cell? ⟨w.heap.size, 3, none⟩ = some (.bool d) := cell_of_row _ _ _ _ _ (0, 0) HB4.out.r0
      have c0_4 : w4.cell? ⟨w.heap.size, 4, none⟩ = some (.int .i64 e) := cell_of_row _ _ _ _ _ (0, 0) HB4.out.r0
      have c1_0 : w4.cell? ⟨w.heap.size + 1, 0, none⟩ = some (.int .i64 0) := cell_of_row _ _ _ _ _ (0, 0) HB4.out.r1
      have c1_1 : w4.cell? ⟨w.heap.size + 1, 1, none⟩ = some (.int .i64 0) := cell_of_row _ _ _ _ _ (0, 0) HB4.out.r1
      have c1_2 : w4.cell? ⟨w.heap.size + 1, 2, none⟩ = some (.int .i64 0) := cell_of_row _ _ _ _ _ (0, 0) HB4.out.r1
      have c1_3 : w4.cell? ⟨w.heap.size + 1, 3, none⟩ = some (.bool false) := cell_of_row _ _ _ _ _ (0, 0) HB4.out.r1
      have c1_4 : w4.cell? ⟨w.heap.size + 1, 4, none⟩ = some (.int .i64 0) := cell_of_row _ _ _ _ _ (0, 0) HB4.out.r1
      go_wp2_with (with_reducible show wpList _ _ _ (Oper.mk _ (.store 25 _ _) _ _ _ _ :: _) _ _; refine Hid.out ?_)
      refine Lib.hid ?_
      refine wpList_put rfl 25 _ _ rfl (w.heap.size + 1) #[.int .i64 a, .int .i64 m, .int .i64 n, .bool d, .int .i64 e] _ 25 rfl rfl HB4.out.r1 (by kernel_rfl) rfl (by kernel_rfl) ?_
      intro w5 hr5 hg5
      have HB5 : Hid (Bx w [(w.heap.size, .cells #[.int .i64 a, .int .i64 b, .int .i64 n, .bool d, .int .i64 e] 25 (0, 0)), (w.heap.size + 1, .cells #[.int .i64 a, .int .i64 m, .int .i64 n, .bool d, .int .i64 e] 25 (0, 0))] w5) := Lib.hid (HB4.out.put (by omega) hg5.out hr5.out (by simp only [List.mem_cons, List.not_mem_nil, or_false]; rintro p (rfl | rfl) <;> simp <;> omega))
      clear c0_0 c0_1 c0_2 c0_3 c0_4 c1_0 c1_1 c1_2 c1_3 c1_4 hr5 hg5 HB4
      have c0_0 : w5.cell? ⟨w.heap.size, 0, none⟩ = some (.int .i64 a) := cell_of_row _ _ _ _ _ (0, 0) HB5.out.r0
      have c0_1 : w5.cell? ⟨w.heap.size, 1, none⟩ = some (.int .i64 b) := cell_of_row _ _ _ _ _ (0, 0) HB5.out.r0
      have c0_2 : w5.cell? ⟨w.heap.size, 2, none⟩ = some (.int .i64 n) := cell_of_row _ _ _ _ _ (0, 0) HB5.out.r0
      have c0_3 : w5.cell? ⟨w.heap.size, 3, none⟩ = some (.bool d) := cell_of_row _ _ _ _ _ (0, 0) HB5.out.r0
      have c0_4 : w5.cell? ⟨w.heap.size, 4, none⟩ = some (.int .i64 e) := cell_of_row _ _ _ _ _ (0, 0) HB5.out.r0
      have c1_0 : w5.cell? ⟨w.heap.size + 1, 0, none⟩ = some (.int .i64 a) := cell_of_row _ _ _ _ _ (0, 0) HB5.out.r1
      have c1_1 : w5.cell? ⟨w.heap.size + 1, 1, none⟩ = some (.int .i64 m) := cell_of_row _ _ _ _ _ (0, 0) HB5.out.r1
      have c1_2 : w5.cell? ⟨w.heap.size + 1, 2, none⟩ = some (.int .i64 n) := cell_of_row _ _ _ _ _ (0, 0) HB5.out.r1
      have c1_3 : w5.cell? ⟨w.heap.size + 1, 3, none⟩ = some (.bool d) := cell_of_row _ _ _ _ _ (0, 0) HB5.out.r1
      have c1_4 : w5.cell? ⟨w.heap.size + 1, 4, none⟩ = some (.int .i64 e) := cell_of_row _ _ _ _ _ (0, 0) HB5.out.r1
      go_wp2_with fail
      exact bodyPost_ret (results_cell_row Try.results11 _ _ _ _ _ (0, 0) _ rfl (HB5.out.r1) Try.underlying25 rfl (by kernel_rfl)) rfl (⟨rfl, HB5.out.below⟩)
  · rw [show Dr.skipF ⟨a, b, c, d, e⟩ = ⟨a, b, c, d, e⟩ from if_neg (fun h => hB h.1)]
    rw [Bool.eq_false_iff.2 hB] at F
    clear hB
    have HB0 := Lib.hid (bxs2 w (.cells #[.int .i64 a, .int .i64 b, .int .i64 c, .bool d, .int .i64 e] 25) (.cells #[.int .i64 0, .int .i64 0, .int .i64 0, .bool false, .int .i64 0] 25))
    go_enter Try.func11, Try.ntmps11
    go_wp2_with fail
    refine (F.out _).mono ?_
    rintro e w1 ⟨rfl, hb1⟩
    have HB1 := Lib.hid (HB0.out.next hb1)
    clear hb1 HB0
    have c0_0 : w1.cell? ⟨w.heap.size, 0, none⟩ = some (.int .i64 a) := cell_of_row _ _ _ _ _ (0, 0) HB1.out.r0
    have c0_1 : w1.cell? ⟨w.heap.size, 1, none⟩ = some (.int .i64 b) := cell_of_row _ _ _ _ _ (0, 0) HB1.out.r0
    have c0_2 : w1.cell? ⟨w.heap.size, 2, none⟩ = some (.int .i64 c) := cell_of_row _ _ _ _ _ (0, 0) HB1.out.r0
    have c0_3 : w1.cell? ⟨w.heap.size, 3, none⟩ = some (.bool d) := cell_of_row _ _ _ _ _ (0, 0) HB1.out.r0
    have c0_4 : w1.cell? ⟨w.heap.size, 4, none⟩ = some (.int .i64 e) := cell_of_row _ _ _ _ _ (0, 0) HB1.out.r0
    have c1_0 : w1.cell? ⟨w.heap.size + 1, 0, none⟩ = some (.int .i64 0) := cell_of_row _ _ _ _ _ (0, 0) HB1.out.r1
    have c1_1 : w1.cell? ⟨w.heap.size + 1, 1, none⟩ = some (.int .i64 0) := cell_of_row _ _ _ _ _ (0, 0) HB1.out.r1
    have c1_2 : w1.cell? ⟨w.heap.size + 1, 2, none⟩ = some (.int .i64 0) := cell_of_row _ _ _ _ _ (0, 0) HB1.out.r1
    have c1_3 : w1.cell? ⟨w.heap.size + 1, 3, none⟩ = some (.bool false) := cell_of_row _ _ _ _ _ (0, 0) HB1.out.r1
    have c1_4 : w1.cell? ⟨w.heap.size + 1, 4, none⟩ = some (.int .i64 0) := cell_of_row _ _ _ _ _ (0, 0) HB1.out.r1
    go_wp2_with (with_reducible show wpList _ _ _ (Oper.mk _ (.store 25 _ _) _ _ _ _ :: _) _ _; refine Hid.out ?_)
    refine Lib.hid ?_
    refine wpList_put rfl 25 _ _ rfl (w.heap.size + 1) #[.int .i64 a, .int .i64 b, .int .i64 c, .bool d, .int .i64 e] _ 25 rfl rfl HB1.out.r1 (by kernel_rfl) rfl (by kernel_rfl) ?_
    intro w2 hr2 hg2
    have HB2 : Hid (Bx w [(w.heap.size, .cells #[.int .i64 a, .int .i64 b, .int .i64 c, .bool d, .int .i64 e] 25 (0, 0)), (w.heap.size + 1, .cells #[.int .i64 a, .int .i64 b, .int .i64 c, .bool d, .int .i64 e] 25 (0, 0))] w2) := Lib.hid (HB1.out.put (by omega) hg2.out hr2.out (by simp only [List.mem_cons, List.not_mem_nil, or_false]; rintro p (rfl | rfl) <;> simp <;> omega))
    clear c0_0 c0_1 c0_2 c0_3 c0_4 c1_0 c1_1 c1_2 c1_3 c1_4 hr2 hg2 HB1
    have c0_0 : w2.cell? ⟨w.heap.size, 0, none⟩ = some (.int .i64 a) := cell_of_row _ _ _ _ _ (0, 0) HB2.out.r0
    have c0_1 : w2.cell? ⟨w.heap.size, 1, none⟩ = some (.int .i64 b) := cell_of_row _ _ _ _ _ (0, 0) HB2.out.r0
    have c0_2 : w2.cell? ⟨w.heap.size, 2, none⟩ = some (.int .i64 c) := cell_of_row _ _ _ _ _ (0, 0) HB2.out.r0
    have c0_3 : w2.cell? ⟨w.heap.size, 3, none⟩ = some (.bool d) := cell_of_row _ _ _ _ _ (0, 0) HB2.out.r0
    have c0_4 : w2.cell? ⟨w.heap.size, 4, none⟩ = some (.int .i64 e) := cell_of_row _ _ _ _ _ (0, 0) HB2.out.r0
    have c1_0 : w2.cell? ⟨w.heap.size + 1, 0, none⟩ = some (.int .i64 a) := cell_of_row _ _ _ _ _ (0, 0) HB2.out.r1
    have c1_1 : w2.cell? ⟨w.heap.size + 1, 1, none⟩ = some (.int .i64 b) := cell_of_row _ _ _ _ _ (0, 0) HB2.out.r1
    have c1_2 : w2.cell? ⟨w.heap.size + 1, 2, none⟩ = some (.int .i64 c) := cell_of_row _ _ _ _ _ (0, 0) HB2.out.r1
    have c1_3 : w2.cell? ⟨w.heap.size + 1, 3, none⟩ = some (.bool d) := cell_of_row _ _ _ _ _ (0, 0) HB2.out.r1
    have c1_4 : w2.cell? ⟨w.heap.size + 1, 4, none⟩ = some (.int .i64 e) := cell_of_row _ _ _ _ _ (0, 0) HB2.out.r1
    go_wp2_with fail
    exact bodyPost_ret (results_cell_row Try.results11 _ _ _ _ _ (0, 0) _ rfl (HB2.out.r1) Try.underlying25 rfl (by kernel_rfl)) rfl (⟨rfl, HB2.out.below⟩)
theorem refSkip_any (a b c : Int) (d : Bool) (e : Int) (w : World) :
    Calls Try.prog 12 #[.agg #[.int .i64 a, .int .i64 b, .int .i64 c, .bool d, .int .i64 e]] w fun ee w' => ee = .returned ((Dr.skipF ⟨a, b, c, d, e⟩).agg) ∧ Below w.heap.size w w' := by
  have F := Lib.hid (fun wx => refIsState_any a b c d e wx)
  by_cases hB : Dr.isB ⟨a, b, c, d, e⟩ = true
  · rw [hB] at F
    by_cases h0 : a = 0
    · rw [show Dr.skipF ⟨a, b, c, d, e⟩ = ⟨a, b, c, d, e⟩ from if_neg (fun h => h.2 h0)]
      subst h0
      clear hB
      have HB0 := Lib.hid (bxs2 w (.cells #[.int .i64 0, .int .i64 b, .int .i64 c, .bool d, .int .i64 e] 25) (.cells #[.int .i64 0, .int .i64 0, .int .i64 0, .bool false, .int .i64 0] 25))
      go_enter Try.func12, Try.ntmps12
      go_wp2_with fail
      refine (F.out _).mono ?_
      rintro e w1 ⟨rfl, hb1⟩
      have HB1 := Lib.hid (HB0.out.next hb1)
      clear hb1 HB0
      have c0_0 : w1.cell? ⟨w.heap.size, 0, none⟩ = some (.int .i64 0) := cell_of_row _ _ _ _ _ (0, 0) HB1.out.r0
      have c0_1 : w1.cell? ⟨w.heap.size, 1, none⟩ = some (.int .i64 b) := cell_of_row _ _ _ _ _ (0, 0) HB1.out.r0
      have c0_2 : w1.cell? ⟨w.heap.size, 2, none⟩ = some (.int .i64 c) := cell_of_row _ _ _ _ _ (0, 0) HB1.out.r0
      have c0_3 : w1.cell? ⟨w.heap.size, 3, none⟩ = some (.bool d) := cell_of_row _ _ _ _ _ (0, 0) HB1.out.r0
      have c0_4 : w1.cell? ⟨w.heap.size, 4, none⟩ = some (.int .i64 e) := cell_of_row _ _ _ _ _ (0, 0) HB1.out.r0
      have c1_0 : w1.cell? ⟨w.heap.size + 1, 0, none⟩ = some (.int .i64 0) := cell_of_row _ _ _ _ _ (0, 0) HB1.out.r1
      have c1_1 : w1.cell? ⟨w.heap.size + 1, 1, none⟩ = some (.int .i64 0) := cell_of_row _ _ _ _ _ (0, 0) HB1.out.r1
      have c1_2 : w1.cell? ⟨w.heap.size + 1, 2, none⟩ = some (.int .i64 0) := cell_of_row _ _ _ _ _ (0, 0) HB1.out.r1
      have c1_3 : w1.cell? ⟨w.heap.size + 1, 3, none⟩ = some (.bool false) := cell_of_row _ _ _ _ _ (0, 0) HB1.out.r1
      have c1_4 : w1.cell? ⟨w.heap.size + 1, 4, none⟩ = some (.int .i64 0) := cell_of_row _ _ _ _ _ (0, 0) HB1.out.r1
      go_wp2_with (with_reducible show wpList _ _ _ (Oper.mk _ (.store 25 _ _) _ _ _ _ :: _) _ _; refine Hid.out ?_)
      refine Lib.hid ?_
      refine wpList_put rfl 25 _ _ rfl (w.heap.size + 1) #[.int .i64 0, .int .i64 b, .int .i64 c, .bool d, .int .i64 e] _ 25 rfl rfl HB1.out.r1 (by kernel_rfl) rfl (by kernel_rfl) ?_
      intro w2 hr2 hg2
      have HB2 : Hid (Bx w [(w.heap.size, .cells #[.int .i64 0, .int .i64 b, .int .i64 c, .bool d, .int .i64 e] 25 (0, 0)), (w.heap.size + 1, .cells #[.int .i64 0, .int .i64 b, .int .i64 c, .bool d, .int .i64 e] 25 (0, 0))] w2) := Lib.hid (HB1.out.put (by omega) hg2.out hr2.out (by simp only [List.mem_cons, List.not_mem_nil, or_false]; rintro p (rfl | rfl) <;> simp <;> omega))
      clear c0_0 c0_1 c0_2 c0_3 c0_4 c1_0 c1_1 c1_2 c1_3 c1_4 hr2 hg2 HB1
      have c0_0 : w2.cell? ⟨w.heap.size, 0, none⟩ = some (.int .i64 0) := cell_of_row _ _ _ _ _ (0, 0) HB2.out.r0
      have c0_1 : w2.cell? ⟨w.heap.size, 1, none⟩ = some (.int .i64 b) := cell_of_row _ _ _ _ _ (0, 0) HB2.out.r0
      have c0_2 : w2.cell? ⟨w.heap.size, 2, none⟩ = some (.int .i64 c) := cell_of_row _ _ _ _ _ (0, 0) HB2.out.r0
      have c0_3 : w2.cell? ⟨w.heap.size, 3, none⟩ = some (.bool d) := cell_of_row _ _ _ _ _ (0, 0) HB2.out.r0
      have c0_4 : w2.cell? ⟨w.heap.size, 4, none⟩ = some (.int .i64 e) := cell_of_row _ _ _ _ _ (0, 0) HB2.out.r0
      have c1_0 : w2.cell? ⟨w.heap.size + 1, 0, none⟩ = some (.int .i64 0) := cell_of_row _ _ _ _ _ (0, 0) HB2.out.r1
      have c1_1 : w2.cell? ⟨w.heap.size + 1, 1, none⟩ = some (.int .i64 b) := cell_of_row _ _ _ _ _ (0, 0) HB2.out.r1
      have c1_2 : w2.cell? ⟨w.heap.size + 1, 2, none⟩ = some (.int .i64 c) := cell_of_row _ _ _ _ _ (0, 0) HB2.out.r1
      have c1_3 : w2.cell? ⟨w.heap.size + 1, 3, none⟩ = some (.bool d) := cell_of_row _ _ _ _ _ (0, 0) HB2.out.r1
      have c1_4 : w2.cell? ⟨w.heap.size + 1, 4, none⟩ = some (.int .i64 e) := cell_of_row _ _ _ _ _ (0, 0) HB2.out.r1
      go_wp2_with fail
      exact bodyPost_ret (results_cell_row Try.results12 _ _ _ _ _ (0, 0) _ rfl (HB2.out.r1) Try.underlying25 rfl (by kernel_rfl)) rfl (⟨rfl, HB2.out.below⟩)
    · rw [show Dr.skipF ⟨a, b, c, d, e⟩ = ⟨a, Dr.more b, Dr.next c, d, e⟩ from if_pos ⟨hB, h0⟩]
      obtain ⟨-, hb, hc, -⟩ := (Dr.isB_iff h0).1 hB
      clear hB
      simp only at hb hc
      have FM := Lib.hid (fun wx => refMore_any b wx hb)
      generalize Dr.more b = m at *
      by_cases hc0 : 0 < c
      · rw [show Dr.next c = Dr.more c from if_neg (by omega)]
        have FC := Lib.hid (fun wx => refMore_any c wx hc)
        generalize Dr.more c = n at *
        clear hb hc
        have HB0 := Lib.hid (bxs2 w (.cells #[.int .i64 a, .int .i64 b, .int .i64 c, .bool d, .int .i64 e] 25) (.cells #[.int .i64 0, .int .i64 0, .int .i64 0, .bool false, .int .i64 0] 25))
        go_enter Try.func12, Try.ntmps12
        go_wp2_with fail
        refine (F.out _).mono ?_
        rintro e w1 ⟨rfl, hb1⟩
        have HB1 := Lib.hid (HB0.out.next hb1)
        clear hb1 HB0
        have c0_0 : w1.cell? ⟨w.heap.size, 0, none⟩ = some (.int .i64 a) := cell_of_row _ _ _ _ _ (0, 0) HB1.out.r0
        have c0_1 : w1.cell? ⟨w.heap.size, 1, none⟩ = some (.int .i64 b) := cell_of_row _ _ _ _ _ (0, 0) HB1.out.r0
        have c0_2 : w1.cell? ⟨w.heap.size, 2, none⟩ = some (.int .i64 c) := cell_of_row _ _ _ _ _ (0, 0) HB1.out.r0
        have c0_3 : w1.cell? ⟨w.heap.size, 3, none⟩ = some (.bool d) := cell_of_row _ _ _ _ _ (0, 0) HB1.out.r0
        have c0_4 : w1.cell? ⟨w.heap.size, 4, none⟩ = some (.int .i64 e) := cell_of_row _ _ _ _ _ (0, 0) HB1.out.r0
        have c1_0 : w1.cell? ⟨w.heap.size + 1, 0, none⟩ = some (.int .i64 0) := cell_of_row _ _ _ _ _ (0, 0) HB1.out.r1
        have c1_1 : w1.cell? ⟨w.heap.size + 1, 1, none⟩ = some (.int .i64 0) := cell_of_row _ _ _ _ _ (0, 0) HB1.out.r1
        have c1_2 : w1.cell? ⟨w.heap.size + 1, 2, none⟩ = some (.int .i64 0) := cell_of_row _ _ _ _ _ (0, 0) HB1.out.r1
        have c1_3 : w1.cell? ⟨w.heap.size + 1, 3, none⟩ = some (.bool false) := cell_of_row _ _ _ _ _ (0, 0) HB1.out.r1
        have c1_4 : w1.cell? ⟨w.heap.size + 1, 4, none⟩ = some (.int .i64 0) := cell_of_row _ _ _ _ _ (0, 0) HB1.out.r1
        go_wp2_with fail
        refine (FM.out _).mono ?_
        rintro e w2 ⟨rfl, hb2⟩
        have HB2 := Lib.hid (HB1.out.next hb2)
        clear c0_0 c0_1 c0_2 c0_3 c0_4 c1_0 c1_1 c1_2 c1_3 c1_4 hb2 HB1
        have c0_0 : w2.cell? ⟨w.heap.size, 0, none⟩ = some (.int .i64 a) := cell_of_row _ _ _ _ _ (0, 0) HB2.out.r0
        have c0_1 : w2.cell? ⟨w.heap.size, 1, none⟩ = some (.int .i64 b) := cell_of_row _ _ _ _ _ (0, 0) HB2.out.r0
        have c0_2 : w2.cell? ⟨w.heap.size, 2, none⟩ = some (.int .i64 c) := cell_of_row _ _ _ _ _ (0, 0) HB2.out.r0
        have c0_3 : w2.cell? ⟨w.heap.size, 3, none⟩ = some (.bool d) := cell_of_row _ _ _ _ _ (0, 0) HB2.out.r0
        have c0_4 : w2.cell? ⟨w.heap.size, 4, none⟩ = some (.int .i64 e) := cell_of_row _ _ _ _ _ (0, 0) HB2.out.r0
        have c1_0 : w2.cell? ⟨w.heap.size + 1, 0, none⟩ = some (.int .i64 0) := cell_of_row _ _ _ _ _ (0, 0) HB2.out.r1
        have c1_1 : w2.cell? ⟨w.heap.size + 1, 1, none⟩ = some (.int .i64 0) := cell_of_row _ _ _ _ _ (0, 0) HB2.out.r1
        have c1_2 : w2.cell? ⟨w.heap.size + 1, 2, none⟩ = some (.int .i64 0) := cell_of_row _ _ _ _ _ (0, 0) HB2.out.r1
        have c1_3 : w2.cell? ⟨w.heap.size + 1, 3, none⟩ = some (.bool false) := cell_of_row _ _ _ _ _ (0, 0) HB2.out.r1
        have c1_4 : w2.cell? ⟨w.heap.size + 1, 4, none⟩ = some (.int .i64 0) := cell_of_row _ _ _ _ _ (0, 0) HB2.out.r1
        go_wp2_with (with_reducible show wpList _ _ _ (Oper.mk _ (.store 3 _ _) _ _ _ _ :: _) _ _; refine Hid.out ?_)
        refine Lib.hid ?_
        refine wpList_putCell rfl 3 _ _ rfl (w.heap.size) 1 (.int .i64 m) _ _ 25 rfl rfl HB2.out.r0 (by kernel_rfl) (by simp) rfl rfl rfl ?_
        intro w3 hr3 hg3
        have HB3 : Hid (Bx w [(w.heap.size, .cells #[.int .i64 a, .int .i64 m, .int .i64 c, .bool d, .int .i64 e] 25 (0, 0)), (w.heap.size + 1, .cells #[.int .i64 0, .int .i64 0, .int .i64 0, .bool false, .int .i64 0] 25 (0, 0))] w3) := Lib.hid (HB2.out.put (by omega) hg3.out hr3.out (by simp only [List.mem_cons, List.not_mem_nil, or_false]; rintro p (rfl | rfl) <;> simp <;> omega))
        clear c0_0 c0_1 c0_2 c0_3 c0_4 c1_0 c1_1 c1_2 c1_3 c1_4 hr3 hg3 HB2
        have c0_0 : w3.cell? ⟨w.heap.size, 0, none⟩ = some (.int .i64 a) := cell_of_row _ _ _ _ _ (0, 0) HB3.out.r0
        have c0_1 : w3.cell? ⟨w.heap.size, 1, none⟩ = some (.int .i64 m) := cell_of_row _ _ _ _ _ (0, 0) HB3.out.r0
        have c0_2 : w3.cell? ⟨w.heap.size, 2, none⟩ = some (.int .i64 c) := cell_of_row _ _ _ _ _ (0, 0) HB3.out.r0
        have c0_3 : w3.cell? ⟨w.heap.size, 3, none⟩ = some (.bool d) := cell_of_row _ _ _ _ _ (0, 0) HB3.out.r0
        have c0_4 : w3.cell? ⟨w.heap.size, 4, none⟩ = some (.int .i64 e) := cell_of_row _ _ _ _ _ (0, 0) HB3.out.r0
        have c1_0 : w3.cell? ⟨w.heap.size + 1, 0, none⟩ = some (.int .i64 0) := cell_of_row _ _ _ _ _ (0, 0) HB3.out.r1
        have c1_1 : w3.cell? ⟨w.heap.size + 1, 1, none⟩ = some (.int .i64 0) := cell_of_row _ _ _ _ _ (0, 0) HB3.out.r1
        have c1_2 : w3.cell? ⟨w.heap.size + 1, 2, none⟩ = some (.int .i64 0) := cell_of_row _ _ _ _ _ (0, 0) HB3.out.r1
        have c1_3 : w3.cell? ⟨w.heap.size + 1, 3, none⟩ = some (.bool false) := cell_of_row _ _ _ _ _ (0, 0) HB3.out.r1
        have c1_4 : w3.cell? ⟨w.heap.size + 1, 4, none⟩ = some (.int .i64 0) := cell_of_row _ _ _ _ _ (0, 0) HB3.out.r1
        go_wp2_with fail
        refine (FC.out _).mono ?_
        rintro e w4 ⟨rfl, hb4⟩
        have HB4 := Lib.hid (HB3.out.next hb4)
        clear c0_0 c0_1 c0_2 c0_3 c0_4 c1_0 c1_1 c1_2 c1_3 c1_4 hb4 HB3
        have c0_0 : w4.cell? ⟨w.heap.size, 0, none⟩ = some (.int .i64 a) := cell_of_row _ _ _ _ _ (0, 0) HB4.out.r0
        have c0_1 : w4.cell? ⟨w.heap.size, 1, none⟩ = some (.int .i64 m) := cell_of_row _ _ _ _ _ (0, 0) HB4.out.r0
        have c0_2 : w4.cell? ⟨w.heap.size, 2, none⟩ = some (.int .i64 c) := cell_of_row _ _ _ _ _ (0, 0) HB4.out.r0
        have c0_3 : w4.cell? ⟨w.heap.size, 3, none⟩ = some (.bool d) := cell_of_row _ _ _ _ _ (0, 0) HB4.out.r0
        have c0_4 : w4.cell? ⟨w.heap.size, 4, none⟩ = some (.int .i64 e) := cell_of_row _ _ _ _ _ (0, 0) HB4.out.r0
        have c1_0 : w4.cell? ⟨w.heap.size + 1, 0, none⟩ = some (.int .i64 0) := cell_of_row _ _ _ _ _ (0, 0) HB4.out.r1
        have c1_1 : w4.cell? ⟨w.heap.size + 1, 1, none⟩ = some (.int .i64 0) := cell_of_row _ _ _ _ _ (0, 0) HB4.out.r1
        have c1_2 : w4.cell? ⟨w.heap.size + 1, 2, none⟩ = some (.int .i64 0) := cell_of_row _ _ _ _ _ (0, 0) HB4.out.r1
        have c1_3 : w4.cell? ⟨w.heap.size + 1, 3, none⟩ = some (.bool false) := cell_of_row _ _ _ _ _ (0, 0) HB4.out.r1
        have c1_4 : w4.cell? ⟨w.heap.size + 1, 4, none⟩ = some (.int .i64 0) := cell_of_row _ _ _ _ _ (0, 0) HB4.out.r1
        go_wp2_with (with_reducible show wpList _ _ _ (Oper.mk _ (.store 3 _ _) _ _ _ _ :: _) _ _; refine Hid.out ?_)
        refine Lib.hid ?_
        refine wpList_putCell rfl 3 _ _ rfl (w.heap.size) 2 (.int .i64 n) _ _ 25 rfl rfl HB4.out.r0 (by kernel_rfl) (by simp) rfl rfl rfl ?_
        intro w5 hr5 hg5
        have HB5 : Hid (Bx w [(w.heap.size, .cells #[.int .i64 a, .int .i64 m, .int .i64 n, .bool d, .int .i64 e] 25 (0, 0)), (w.heap.size + 1, .cells #[.int .i64 0, .int .i64 0, .int .i64 0, .bool false, .int .i64 0] 25 (0, 0))] w5) := Lib.hid (HB4.out.put (by omega) hg5.out hr5.out (by simp only [List.mem_cons, List.not_mem_nil, or_false]; rintro p (rfl | rfl) <;> simp <;> omega))
        clear c0_0 c0_1 c0_2 c0_3 c0_4 c1_0 c1_1 c1_2 c1_3 c1_4 hr5 hg5 HB4
        have c0_0 : w5.cell? ⟨w.heap.size, 0, none⟩ = some (.int .i64 a) := cell_of_row _ _ _ _ _ (0, 0) HB5.out.r0
        have c0_1 : w5.cell? ⟨w.heap.size, 1, none⟩ = some (.int .i64 m) := cell_of_row _ _ _ _ _ (0, 0) HB5.out.r0
        have c0_2 : w5.cell? ⟨w.heap.size, 2, none⟩ = some (.int .i64 n) := cell_of_row _ _ _ _ _ (0, 0) HB5.out.r0
        have c0_3 : w5.cell? ⟨w.heap.size, 3, none⟩ = some (.bool d) := cell_of_row _ _ _ _ _ (0, 0) HB5.out.r0
        have c0_4 : w5.cell? ⟨w.heap.size, 4, none⟩ = some (.int .i64 e) := cell_of_row _ _ _ _ _ (0, 0) HB5.out.r0
        have c1_0 : w5.cell? ⟨w.heap.size + 1, 0, none⟩ = some (.int .i64 0) := cell_of_row _ _ _ _ _ (0, 0) HB5.out.r1
        have c1_1 : w5.cell? ⟨w.heap.size + 1, 1, none⟩ = some (.int .i64 0) := cell_of_row _ _ _ _ _ (0, 0) HB5.out.r1
        have c1_2 : w5.cell? ⟨w.heap.size + 1, 2, none⟩ = some (.int .i64 0) := cell_of_row _ _ _ _ _ (0, 0) HB5.out.r1
        have c1_3 : w5.cell? ⟨w.heap.size + 1, 3, none⟩ = some (.bool false) := cell_of_row _ _ _ _ _ (0, 0) HB5.out.r1
        have c1_4 : w5.cell? ⟨w.heap.size + 1, 4, none⟩ = some (.int .i64 0) := cell_of_row _ _ _ _ _ (0, 0) HB5.out.r1
        go_wp2_with (with_reducible show wpList _ _ _ (Oper.mk _ (.store 25 _ _) _ _ _ _ :: _) _ _; refine Hid.out ?_)
        refine Lib.hid ?_
        refine wpList_put rfl 25 _ _ rfl (w.heap.size + 1) #[.int .i64 a, .int .i64 m, .int .i64 n, .bool d, .int .i64 e] _ 25 rfl rfl HB5.out.r1 (by kernel_rfl) rfl (by kernel_rfl) ?_
        intro w6 hr6 hg6
        have HB6 : Hid (Bx w [(w.heap.size, .cells #[.int .i64 a, .int .i64 m, .int .i64 n, .bool d, .int .i64 e] 25 (0, 0)), (w.heap.size + 1, .cells #[.int .i64 a, .int .i64 m, .int .i64 n, .bool d, .int .i64 e] 25 (0, 0))] w6) := Lib.hid (HB5.out.put (by omega) hg6.out hr6.out (by simp only [List.mem_cons, List.not_mem_nil, or_false]; rintro p (rfl | rfl) <;> simp <;> omega))
        clear c0_0 c0_1 c0_2 c0_3 c0_4 c1_0 c1_1 c1_2 c1_3 c1_4 hr6 hg6 HB5
        have c0_0 : w6.cell? ⟨w.heap.size, 0, none⟩ = some (.int .i64 a) := cell_of_row _ _ _ _ _ (0, 0) HB6.out.r0
        have c0_1 : w6.cell? ⟨w.heap.size, 1, none⟩ = some (.int .i64 m) := cell_of_row _ _ _ _ _ (0, 0) HB6.out.r0
        have c0_2 : w6.cell? ⟨w.heap.size, 2, none⟩ = some (.int .i64 n) := cell_of_row _ _ _ _ _ (0, 0) HB6.out.r0
        have c0_3 : w6.cell? ⟨w.heap.size, 3, none⟩ = some (.bool d) := cell_of_row _ _ _ _ _ (0, 0) HB6.out.r0
        have c0_4 : w6.cell? ⟨w.heap.size, 4, none⟩ = some (.int .i64 e) := cell_of_row _ _ _ _ _ (0, 0) HB6.out.r0
        have c1_0 : w6.cell? ⟨w.heap.size + 1, 0, none⟩ = some (.int .i64 a) := cell_of_row _ _ _ _ _ (0, 0) HB6.out.r1
        have c1_1 : w6.cell? ⟨w.heap.size + 1, 1, none⟩ = some (.int .i64 m) := cell_of_row _ _ _ _ _ (0, 0) HB6.out.r1
        have c1_2 : w6.cell? ⟨w.heap.size + 1, 2, none⟩ = some (.int .i64 n) := cell_of_row _ _ _ _ _ (0, 0) HB6.out.r1
        have c1_3 : w6.cell? ⟨w.heap.size + 1, 3, none⟩ = some (.bool d) := cell_of_row _ _ _ _ _ (0, 0) HB6.out.r1
        have c1_4 : w6.cell? ⟨w.heap.size + 1, 4, none⟩ = some (.int .i64 e) := cell_of_row _ _ _ _ _ (0, 0) HB6.out.r1
        go_wp2_with fail
        exact bodyPost_ret (results_cell_row Try.results12 _ _ _ _ _ (0, 0) _ rfl (HB6.out.r1) Try.underlying25 rfl (by kernel_rfl)) rfl (⟨rfl, HB6.out.below⟩)
      · obtain rfl : c = 0 := by omega
        rw [show Dr.next 0 = 0 from rfl]
        clear hb hc hc0
        have HB0 := Lib.hid (bxs2 w (.cells #[.int .i64 a, .int .i64 b, .int .i64 0, .bool d, .int .i64 e] 25) (.cells #[.int .i64 0, .int .i64 0, .int .i64 0, .bool false, .int .i64 0] 25))
        go_enter Try.func12, Try.ntmps12
        go_wp2_with fail
        refine (F.out _).mono ?_
        rintro e w1 ⟨rfl, hb1⟩
        have HB1 := Lib.hid (HB0.out.next hb1)
        clear hb1 HB0
        have c0_0 : w1.cell? ⟨w.heap.size, 0, none⟩ = some (.int .i64 a) := cell_of_row _ _ _ _ _ (0, 0) HB1.out.r0
        have c0_1 : w1.cell? ⟨w.heap.size, 1, none⟩ = some (.int .i64 b) := cell_of_row _ _ _ _ _ (0, 0) HB1.out.r0
        have c0_2 : w1.cell? ⟨w.heap.size, 2, none⟩ = some (.int .i64 0) := cell_of_row _ _ _ _ _ (0, 0) HB1.out.r0
        have c0_3 : w1.cell? ⟨w.heap.size, 3, none⟩ = some (.bool d) := cell_of_row _ _ _ _ _ (0, 0) HB1.out.r0
        have c0_4 : w1.cell? ⟨w.heap.size, 4, none⟩ = some (.int .i64 e) := cell_of_row _ _ _ _ _ (0, 0) HB1.out.r0
        have c1_0 : w1.cell? ⟨w.heap.size + 1, 0, none⟩ = some (.int .i64 0) := cell_of_row _ _ _ _ _ (0, 0) HB1.out.r1
        have c1_1 : w1.cell? ⟨w.heap.size + 1, 1, none⟩ = some (.int .i64 0) := cell_of_row _ _ _ _ _ (0, 0) HB1.out.r1
        have c1_2 : w1.cell? ⟨w.heap.size + 1, 2, none⟩ = some (.int .i64 0) := cell_of_row _ _ _ _ _ (0, 0) HB1.out.r1
        have c1_3 : w1.cell? ⟨w.heap.size + 1, 3, none⟩ = some (.bool false) := cell_of_row _ _ _ _ _ (0, 0) HB1.out.r1
        have c1_4 : w1.cell? ⟨w.heap.size + 1, 4, none⟩ = some (.int .i64 0) := cell_of_row _ _ _ _ _ (0, 0) HB1.out.r1
        go_wp2_with fail
        refine (FM.out _).mono ?_
        rintro e w2 ⟨rfl, hb2⟩
        have HB2 := Lib.hid (HB1.out.next hb2)
        clear c0_0 c0_1 c0_2 c0_3 c0_4 c1_0 c1_1 c1_2 c1_3 c1_4 hb2 HB1
        have c0_0 : w2.cell? ⟨w.heap.size, 0, none⟩ = some (.int .i64 a) := cell_of_row _ _ _ _ _ (0, 0) HB2.out.r0
        have c0_1 : w2.cell? ⟨w.heap.size, 1, none⟩ = some (.int .i64 b) := cell_of_row _ _ _ _ _ (0, 0) HB2.out.r0
        have c0_2 : w2.cell? ⟨w.heap.size, 2, none⟩ = some (.int .i64 0) := cell_of_row _ _ _ _ _ (0, 0) HB2.out.r0
        have c0_3 : w2.cell? ⟨w.heap.size, 3, none⟩ = some (.bool d) := cell_of_row _ _ _ _ _ (0, 0) HB2.out.r0
        have c0_4 : w2.cell? ⟨w.heap.size, 4, none⟩ = some (.int .i64 e) := cell_of_row _ _ _ _ _ (0, 0) HB2.out.r0
        have c1_0 : w2.cell? ⟨w.heap.size + 1, 0, none⟩ = some (.int .i64 0) := cell_of_row _ _ _ _ _ (0, 0) HB2.out.r1
        have c1_1 : w2.cell? ⟨w.heap.size + 1, 1, none⟩ = some (.int .i64 0) := cell_of_row _ _ _ _ _ (0, 0) HB2.out.r1
        have c1_2 : w2.cell? ⟨w.heap.size + 1, 2, none⟩ = some (.int .i64 0) := cell_of_row _ _ _ _ _ (0, 0) HB2.out.r1
        have c1_3 : w2.cell? ⟨w.heap.size + 1, 3, none⟩ = some (.bool false) := cell_of_row _ _ _ _ _ (0, 0) HB2.out.r1
        have c1_4 : w2.cell? ⟨w.heap.size + 1, 4, none⟩ = some (.int .i64 0) := cell_of_row _ _ _ _ _ (0, 0) HB2.out.r1
        go_wp2_with (with_reducible show wpList _ _ _ (Oper.mk _ (.store 3 _ _) _ _ _ _ :: _) _ _; refine Hid.out ?_)
        refine Lib.hid ?_
        refine wpList_putCell rfl 3 _ _ rfl (w.heap.size) 1 (.int .i64 m) _ _ 25 rfl rfl HB2.out.r0 (by kernel_rfl) (by simp) rfl rfl rfl ?_
        intro w3 hr3 hg3
        have HB3 : Hid (Bx w [(w.heap.size, .cells #[.int .i64 a, .int .i64 m, .int .i64 0, .bool d, .int .i64 e] 25 (0, 0)), (w.heap.size + 1, .cells #[.int .i64 0, .int .i64 0, .int .i64 0, .bool false, .int .i64 0] 25 (0, 0))] w3) := Lib.hid (HB2.out.put (by omega) hg3.out hr3.out (by simp only [List.mem_cons, List.not_mem_nil, or_false]; rintro p (rfl | rfl) <;> simp <;> omega))
        clear c0_0 c0_1 c0_2 c0_3 c0_4 c1_0 c1_1 c1_2 c1_3 c1_4 hr3 hg3 HB2
        have c0_0 : w3.cell? ⟨w.heap.size, 0, none⟩ = some (.int .i64 a) := cell_of_row _ _ _ _ _ (0, 0) HB3.out.r0
        have c0_1 : w3.cell? ⟨w.heap.size, 1, none⟩ = some (.int .i64 m) := cell_of_row _ _ _ _ _ (0, 0) HB3.out.r0
        have c0_2 : w3.cell? ⟨w.heap.size, 2, none⟩ = some (.int .i64 0) := cell_of_row _ _ _ _ _ (0, 0) HB3.out.r0
        have c0_3 : w3.cell? ⟨w.heap.size, 3, none⟩ = some (.bool d) := cell_of_row _ _ _ _ _ (0, 0) HB3.out.r0
        have c0_4 : w3.cell? ⟨w.heap.size, 4, none⟩ = some (.int .i64 e) := cell_of_row _ _ _ _ _ (0, 0) HB3.out.r0
        have c1_0 : w3.cell? ⟨w.heap.size + 1, 0, none⟩ = some (.int .i64 0) := cell_of_row _ _ _ _ _ (0, 0) HB3.out.r1
        have c1_1 : w3.cell? ⟨w.heap.size + 1, 1, none⟩ = some (.int .i64 0) := cell_of_row _ _ _ _ _ (0, 0) HB3.out.r1
        have c1_2 : w3.cell? ⟨w.heap.size + 1, 2, none⟩ = some (.int .i64 0) := cell_of_row _ _ _ _ _ (0, 0) HB3.out.r1
        have c1_3 : w3.cell? ⟨w.heap.size + 1, 3, none⟩ = some (.bool false) := cell_of_row _ _ _ _ _ (0, 0) HB3.out.r1
        have c1_4 : w3.cell? ⟨w.heap.size + 1, 4, none⟩ = some (.int .i64 0) := cell_of_row _ _ _ _ _ (0, 0) HB3.out.r1
        go_wp2_with (with_reducible show wpList _ _ _ (Oper.mk _ (.store 25 _ _) _ _ _ _ :: _) _ _; refine Hid.out ?_)
        refine Lib.hid ?_
        refine wpList_put rfl 25 _ _ rfl (w.heap.size + 1) #[.int .i64 a, .int .i64 m, .int .i64 0, .bool d, .int .i64 e] _ 25 rfl rfl HB3.out.r1 (by kernel_rfl) rfl (by kernel_rfl) ?_
        intro w4 hr4 hg4
        have HB4 : Hid (Bx w [(w.heap.size, .cells #[.int .i64 a, .int .i64 m, .int .i64 0, .bool d, .int .i64 e] 25 (0, 0)), (w.heap.size + 1, .cells #[.int .i64 a, .int .i64 m, .int .i64 0, .bool d, .int .i64 e] 25 (0, 0))] w4) := Lib.hid (HB3.out.put (by omega) hg4.out hr4.out (by simp only [List.mem_cons, List.not_mem_nil, or_false]; rintro p (rfl | rfl) <;> simp <;> omega))
        clear c0_0 c0_1 c0_2 c0_3 c0_4 c1_0 c1_1 c1_2 c1_3 c1_4 hr4 hg4 HB3
        have c0_0 : w4.cell? ⟨w.heap.size, 0, none⟩ = some (.int .i64 a) := cell_of_row _ _ _ _ _ (0, 0) HB4.out.r0
        have c0_1 : w4.cell? ⟨w.heap.size, 1, none⟩ = some (.int .i64 m) := cell_of_row _ _ _ _ _ (0, 0) HB4.out.r0
        have c0_2 : w4.cell? ⟨w.heap.size, 2, none⟩ = some (.int .i64 0) := cell_of_row _ _ _ _ _ (0, 0) HB4.out.r0
        have c0_3 : w4.cell? ⟨w.heap.size, 3, none⟩ = some (.bool d) := cell_of_row _ _ _ _ _ (0, 0) HB4.out.r0
        have c0_4 : w4.cell? ⟨w.heap.size, 4, none⟩ = some (.int .i64 e) := cell_of_row _ _ _ _ _ (0, 0) HB4.out.r0
        have c1_0 : w4.cell? ⟨w.heap.size + 1, 0, none⟩ = some (.int .i64 a) := cell_of_row _ _ _ _ _ (0, 0) HB4.out.r1
        have c1_1 : w4.cell? ⟨w.heap.size + 1, 1, none⟩ = some (.int .i64 m) := cell_of_row _ _ _ _ _ (0, 0) HB4.out.r1
        have c1_2 : w4.cell? ⟨w.heap.size + 1, 2, none⟩ = some (.int .i64 0) := cell_of_row _ _ _ _ _ (0, 0) HB4.out.r1
        have c1_3 : w4.cell? ⟨w.heap.size + 1, 3, none⟩ = some (.bool d) := cell_of_row _ _ _ _ _ (0, 0) HB4.out.r1
        have c1_4 : w4.cell? ⟨w.heap.size + 1, 4, none⟩ = some (.int .i64 e) := cell_of_row _ _ _ _ _ (0, 0) HB4.out.r1
        go_wp2_with fail
        exact bodyPost_ret (results_cell_row Try.results12 _ _ _ _ _ (0, 0) _ rfl (HB4.out.r1) Try.underlying25 rfl (by kernel_rfl)) rfl (⟨rfl, HB4.out.below⟩)
  · rw [show Dr.skipF ⟨a, b, c, d, e⟩ = ⟨a, b, c, d, e⟩ from if_neg (fun h => hB h.1)]
    rw [Bool.eq_false_iff.2 hB] at F
    clear hB
    have HB0 := Lib.hid (bxs2 w (.cells #[.int .i64 a, .int .i64 b, .int .i64 c, .bool d, .int .i64 e] 25) (.cells #[.int .i64 0, .int .i64 0, .int .i64 0, .bool false, .int .i64 0] 25))
    go_enter Try.func12, Try.ntmps12
    go_wp2_with fail
    refine (F.out _).mono ?_
    rintro e w1 ⟨rfl, hb1⟩
    have HB1 := Lib.hid (HB0.out.next hb1)
    clear hb1 HB0
    have c0_0 : w1.cell? ⟨w.heap.size, 0, none⟩ = some (.int .i64 a) := cell_of_row _ _ _ _ _ (0, 0) HB1.out.r0
    have c0_1 : w1.cell? ⟨w.heap.size, 1, none⟩ = some (.int .i64 b) := cell_of_row _ _ _ _ _ (0, 0) HB1.out.r0
    have c0_2 : w1.cell? ⟨w.heap.size, 2, none⟩ = some (.int .i64 c) := cell_of_row _ _ _ _ _ (0, 0) HB1.out.r0
    have c0_3 : w1.cell? ⟨w.heap.size, 3, none⟩ = some (.bool d) := cell_of_row _ _ _ _ _ (0, 0) HB1.out.r0
    have c0_4 : w1.cell? ⟨w.heap.size, 4, none⟩ = some (.int .i64 e) := cell_of_row _ _ _ _ _ (0, 0) HB1.out.r0
    have c1_0 : w1.cell? ⟨w.heap.size + 1, 0, none⟩ = some (.int .i64 0) := cell_of_row _ _ _ _ _ (0, 0) HB1.out.r1
    have c1_1 : w1.cell? ⟨w.heap.size + 1, 1, none⟩ = some (.int .i64 0) := cell_of_row _ _ _ _ _ (0, 0) HB1.out.r1
    have c1_2 : w1.cell? ⟨w.heap.size + 1, 2, none⟩ = some (.int .i64 0) := cell_of_row _ _ _ _ _ (0, 0) HB1.out.r1
    have c1_3 : w1.cell? ⟨w.heap.size + 1, 3, none⟩ = some (.bool false) := cell_of_row _ _ _ _ _ (0, 0) HB1.out.r1
    have c1_4 : w1.cell? ⟨w.heap.size + 1, 4, none⟩ = some (.int .i64 0) := cell_of_row _ _ _ _ _ (0, 0) HB1.out.r1
    go_wp2_with (with_reducible show wpList _ _ _ (Oper.mk _ (.store 25 _ _) _ _ _ _ :: _) _ _; refine Hid.out ?_)
    refine Lib.hid ?_
    refine wpList_put rfl 25 _ _ rfl (w.heap.size + 1) #[.int .i64 a, .int .i64 b, .int .i64 c, .bool d, .int .i64 e] _ 25 rfl rfl HB1.out.r1 (by kernel_rfl) rfl (by kernel_rfl) ?_
    intro w2 hr2 hg2
    have HB2 : Hid (Bx w [(w.heap.size, .cells #[.int .i64 a, .int .i64 b, .int .i64 c, .bool d, .int .i64 e] 25 (0, 0)), (w.heap.size + 1, .cells #[.int .i64 a, .int .i64 b, .int .i64 c, .bool d, .int .i64 e] 25 (0, 0))] w2) := Lib.hid (HB1.out.put (by omega) hg2.out hr2.out (by simp only [List.mem_cons, List.not_mem_nil, or_false]; rintro p (rfl | rfl) <;> simp <;> omega))
    clear c0_0 c0_1 c0_2 c0_3 c0_4 c1_0 c1_1 c1_2 c1_3 c1_4 hr2 hg2 HB1
    have c0_0 : w2.cell? ⟨w.heap.size, 0, none⟩ = some (.int .i64 a) := cell_of_row _ _ _ _ _ (0, 0) HB2.out.r0
    have c0_1 : w2.cell? ⟨w.heap.size, 1, none⟩ = some (.int .i64 b) := cell_of_row _ _ _ _ _ (0, 0) HB2.out.r0
    have c0_2 : w2.cell? ⟨w.heap.size, 2, none⟩ = some (.int .i64 c) := cell_of_row _ _ _ _ _ (0, 0) HB2.out.r0
    have c0_3 : w2.cell? ⟨w.heap.size, 3, none⟩ = some (.bool d) := cell_of_row _ _ _ _ _ (0, 0) HB2.out.r0
    have c0_4 : w2.cell? ⟨w.heap.size, 4, none⟩ = some (.int .i64 e) := cell_of_row _ _ _ _ _ (0, 0) HB2.out.r0
    have c1_0 : w2.cell? ⟨w.heap.size + 1, 0, none⟩ = some (.int .i64 a) := cell_of_row _ _ _ _ _ (0, 0) HB2.out.r1
    have c1_1 : w2.cell? ⟨w.heap.size + 1, 1, none⟩ = some (.int .i64 b) := cell_of_row _ _ _ _ _ (0, 0) HB2.out.r1
    have c1_2 : w2.cell? ⟨w.heap.size + 1, 2, none⟩ = some (.int .i64 c) := cell_of_row _ _ _ _ _ (0, 0) HB2.out.r1
    have c1_3 : w2.cell? ⟨w.heap.size + 1, 3, none⟩ = some (.bool d) := cell_of_row _ _ _ _ _ (0, 0) HB2.out.r1
    have c1_4 : w2.cell? ⟨w.heap.size + 1, 4, none⟩ = some (.int .i64 e) := cell_of_row _ _ _ _ _ (0, 0) HB2.out.r1
    go_wp2_with fail
    exact bodyPost_ret (results_cell_row Try.results12 _ _ _ _ _ (0, 0) _ rfl (HB2.out.r1) Try.underlying25 rfl (by kernel_rfl)) rfl (⟨rfl, HB2.out.below⟩)
end Go.Proofs.Ythniolaeicmjlaa
