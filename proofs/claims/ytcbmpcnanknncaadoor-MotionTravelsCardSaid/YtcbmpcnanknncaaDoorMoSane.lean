/- A step whose answer is known; sane() of stage 13. No statement of the seat is proved here. -/
import Derived.Test.YtcbmpcnanknncaaDoorMoStep
import Derived.Test.YtcbmpcnanknncaaDoorMoRefStep
namespace Go.Proofs.YtcbmpcnanknncaaDoor
open Go.RowKit

theorem mostep_to (F a b c fl : Int) (lv : Bool) (f2 : Int) (f3 : Bool) (k a' b' c' m : Int) (ok : Bool) (w : World) (hT : Tabs w) (h : Mo.stepF F ⟨a, b, c⟩ fl lv k = (⟨a', b', c'⟩, m, ok)) :
    Calls Tryd.prog 9 #[.int .i64 F, .agg #[.int .i64 a, .int .i64 b, .int .i64 c], .agg #[.int .i64 fl, .bool lv, .int .i64 f2, .bool f3], .int .i64 k] w fun ee w' => ee = .returned (.tuple #[.agg #[.int .i64 a', .int .i64 b', .int .i64 c'], .int .i64 m, .bool ok]) ∧ Below w.heap.size w w' := by
  have := moStep_any F a b c fl lv f2 f3 k w hT
  rw [h] at this
  exact this

theorem refmostep_to (F a b c fl : Int) (lv : Bool) (f2 : Int) (f3 : Bool) (k a' b' c' m : Int) (ok : Bool) (w : World) (h : Mo.stepF F ⟨a, b, c⟩ fl lv k = (⟨a', b', c'⟩, m, ok)) :
    Calls Tryd.prog 12 #[.int .i64 F, .agg #[.int .i64 a, .int .i64 b, .int .i64 c], .agg #[.int .i64 fl, .bool lv, .int .i64 f2, .bool f3], .int .i64 k] w fun ee w' => ee = .returned (.tuple #[.agg #[.int .i64 a', .int .i64 b', .int .i64 c'], .int .i64 m, .bool ok]) ∧ Below w.heap.size w w' := by
  have := refMoStep_any F a b c fl lv f2 f3 k w
  rw [h] at this
  exact this

set_option maxHeartbeats 4000000 in
theorem sane13_any (w : World) (hT : Tabs w) : Calls Tryd.prog 8 #[] w fun e w' => e = .returned (.bool true) ∧ Below w.heap.size w w' := by
  have F1 := Lib.hid (fun wx (hb : Below w.heap.size w wx) => mostep_to 6 0 0 0 4 true 0 false 1 1 0 4 1 false wx (hT.below hb) (by decide))
  have F2 := Lib.hid (fun wx (hb : Below w.heap.size w wx) => mostep_to 6 1 0 4 5 true 0 false 1 0 0 0 0 true wx (hT.below hb) (by decide))
  have FI := Lib.hid (fun wx (hb : Below w.heap.size w wx) => moState_any 6 1 0 5 wx (hT.below hb))
  rw [show Mo.isB 6 ⟨1, 0, 5⟩ = false by decide] at FI
  have eq1 := eqlMo 1 0 4 1 0 4
  rw [Mo.same_self] at eq1
  have eqz := eqlMo 0 0 0 0 0 0
  rw [Mo.same_self] at eqz
  clear hT
  have HB0 : Hid (Bx w [] w) := Lib.hid ⟨Below.refl _ _, fun p hp => by simp at hp⟩
  go_enter Tryd.func8, Tryd.ntmps8
  go_wp2_with fail
  refine (F1.out _ HB0.out.below).mono ?_
  rintro e w1 ⟨rfl, hb1⟩
  have HB1 := Lib.hid (HB0.out.next hb1)
  clear hb1 HB0
  go_wp2_with (with_reducible show wpList _ _ _ (Oper.mk _ (.store 23 _ _) _ _ _ _ :: _) _ _; refine Hid.out ?_)
  refine Lib.hid ?_
  have lw2 : w.heap.size ≤ w1.heap.size := HB1.out.below.size
  refine wpList_put rfl 23 _ _ rfl w1.heap.size #[.int .i64 1, .int .i64 0, .int .i64 4] _ 23 rfl rfl (heap_alloc_new w1 _) (by kernel_rfl) rfl (by kernel_rfl) ?_
  intro w2 hr2 hg2
  have HB2 : Hid (Bx w [(w1.heap.size, .cells #[.int .i64 1, .int .i64 0, .int .i64 4] 23 (0, 0))] w2) := Lib.hid ((HB1.out.make (heap_alloc_new w1 (.cells #[.int .i64 0, .int .i64 0, .int .i64 0] 23)) ((Below.refl w1.heap.size w1).alloc (Nat.le_refl _) _)).put HB1.out.below.size hg2.out hr2.out (by simp only [List.mem_cons, List.not_mem_nil, or_false]; rintro p rfl <;> simp <;> omega))
  clear hr2 hg2 HB1
  generalize w1.heap.size = ga at *
  have c0_0 : w2.cell? ⟨ga, 0, none⟩ = some (.int .i64 1) := cell_of_row _ _ _ _ _ (0, 0) HB2.out.r0
  have c0_1 : w2.cell? ⟨ga, 1, none⟩ = some (.int .i64 0) := cell_of_row _ _ _ _ _ (0, 0) HB2.out.r0
  have c0_2 : w2.cell? ⟨ga, 2, none⟩ = some (.int .i64 4) := cell_of_row _ _ _ _ _ (0, 0) HB2.out.r0
  go_wp2_with fail
  refine (F2.out _ HB2.out.below).mono ?_
  rintro e w3 ⟨rfl, hb3⟩
  have HB3 := Lib.hid (HB2.out.next hb3)
  clear c0_0 c0_1 c0_2 hb3 HB2
  have c0_0 : w3.cell? ⟨ga, 0, none⟩ = some (.int .i64 1) := cell_of_row _ _ _ _ _ (0, 0) HB3.out.r0
  have c0_1 : w3.cell? ⟨ga, 1, none⟩ = some (.int .i64 0) := cell_of_row _ _ _ _ _ (0, 0) HB3.out.r0
  have c0_2 : w3.cell? ⟨ga, 2, none⟩ = some (.int .i64 4) := cell_of_row _ _ _ _ _ (0, 0) HB3.out.r0
  go_wp2_with (with_reducible show wpList _ _ _ (Oper.mk _ (.store 23 _ _) _ _ _ _ :: _) _ _; refine Hid.out ?_)
  refine Lib.hid ?_
  have l4_0 : ga < w3.heap.size := (Array.getElem?_eq_some_iff.1 HB3.out.r0).1
  have lw4 : w.heap.size ≤ w3.heap.size := HB3.out.below.size
  refine wpList_put rfl 23 _ _ rfl w3.heap.size #[.int .i64 0, .int .i64 0, .int .i64 0] _ 23 rfl rfl (heap_alloc_new w3 _) (by kernel_rfl) rfl (by kernel_rfl) ?_
  intro w4 hr4 hg4
  have HB4 : Hid (Bx w [(w3.heap.size, .cells #[.int .i64 0, .int .i64 0, .int .i64 0] 23 (0, 0)), (ga, .cells #[.int .i64 1, .int .i64 0, .int .i64 4] 23 (0, 0))] w4) := Lib.hid ((HB3.out.make (heap_alloc_new w3 (.cells #[.int .i64 0, .int .i64 0, .int .i64 0] 23)) ((Below.refl w3.heap.size w3).alloc (Nat.le_refl _) _)).put HB3.out.below.size hg4.out hr4.out (by simp only [List.mem_cons, List.not_mem_nil, or_false]; rintro p (rfl | rfl) <;> simp <;> omega))
  clear c0_0 c0_1 c0_2 hr4 hg4 HB3
  generalize w3.heap.size = gb at *
  have c0_0 : w4.cell? ⟨gb, 0, none⟩ = some (.int .i64 0) := cell_of_row _ _ _ _ _ (0, 0) HB4.out.r0
  have c0_1 : w4.cell? ⟨gb, 1, none⟩ = some (.int .i64 0) := cell_of_row _ _ _ _ _ (0, 0) HB4.out.r0
  have c0_2 : w4.cell? ⟨gb, 2, none⟩ = some (.int .i64 0) := cell_of_row _ _ _ _ _ (0, 0) HB4.out.r0
  have c1_0 : w4.cell? ⟨ga, 0, none⟩ = some (.int .i64 1) := cell_of_row _ _ _ _ _ (0, 0) HB4.out.r1
  have c1_1 : w4.cell? ⟨ga, 1, none⟩ = some (.int .i64 0) := cell_of_row _ _ _ _ _ (0, 0) HB4.out.r1
  have c1_2 : w4.cell? ⟨ga, 2, none⟩ = some (.int .i64 4) := cell_of_row _ _ _ _ _ (0, 0) HB4.out.r1
  go_wp2_with fail
  refine (FI.out _ HB4.out.below).mono ?_
  rintro e w5 ⟨rfl, hb5⟩
  have HB5 := Lib.hid (HB4.out.next hb5)
  clear c0_0 c0_1 c0_2 c1_0 c1_1 c1_2 hb5 HB4
  have c0_0 : w5.cell? ⟨gb, 0, none⟩ = some (.int .i64 0) := cell_of_row _ _ _ _ _ (0, 0) HB5.out.r0
  have c0_1 : w5.cell? ⟨gb, 1, none⟩ = some (.int .i64 0) := cell_of_row _ _ _ _ _ (0, 0) HB5.out.r0
  have c0_2 : w5.cell? ⟨gb, 2, none⟩ = some (.int .i64 0) := cell_of_row _ _ _ _ _ (0, 0) HB5.out.r0
  have c1_0 : w5.cell? ⟨ga, 0, none⟩ = some (.int .i64 1) := cell_of_row _ _ _ _ _ (0, 0) HB5.out.r1
  have c1_1 : w5.cell? ⟨ga, 1, none⟩ = some (.int .i64 0) := cell_of_row _ _ _ _ _ (0, 0) HB5.out.r1
  have c1_2 : w5.cell? ⟨ga, 2, none⟩ = some (.int .i64 4) := cell_of_row _ _ _ _ _ (0, 0) HB5.out.r1
  go_wp2_with fail
  go_ret
  exact ⟨rfl, HB5.out.below⟩
end Go.Proofs.YtcbmpcnanknncaaDoor
