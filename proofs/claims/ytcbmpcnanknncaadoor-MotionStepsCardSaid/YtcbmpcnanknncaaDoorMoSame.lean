/- same() of stage 13. No statement of the seat is proved here. -/
import Derived.Test.YtcbmpcnanknncaaDoorMoSane
namespace Go.Proofs.YtcbmpcnanknncaaDoor
open Go.RowKit

set_option maxHeartbeats 8000000 in
theorem same13_any (F t0 t1 t2 t3 t4 t5 t6 t7 t8 a b c fl : Int) (lv : Bool) (f2 : Int) (f3 : Bool) (k : Int) (w : World) (hT : Tabs w) :
    Calls Tryd.prog 7 #[.int .i64 F, .agg #[.int .i64 t0, .int .i64 t1, .int .i64 t2, .int .i64 t3, .int .i64 t4, .int .i64 t5, .int .i64 t6, .int .i64 t7, .int .i64 t8], .agg #[.int .i64 a, .int .i64 b, .int .i64 c], .agg #[.int .i64 fl, .bool lv, .int .i64 f2, .bool f3], .int .i64 k] w fun e w' => e = .returned (.bool true) ∧ Below w.heap.size w w' := by
  obtain ⟨X, hX⟩ : ∃ X, Mo.stepF F ⟨a, b, c⟩ fl lv k = X := ⟨_, rfl⟩
  obtain ⟨⟨a', b', c'⟩, m, ok⟩ := X
  have FS := Lib.hid (fun wx (hb : Below w.heap.size w wx) => mostep_to F a b c fl lv f2 f3 k a' b' c' m ok wx (hT.below hb) hX)
  have FR := Lib.hid (fun wx => refmostep_to F a b c fl lv f2 f3 k a' b' c' m ok wx hX)
  have FI1 := Lib.hid (fun wx (hb : Below w.heap.size w wx) => moState_any F a b c wx (hT.below hb))
  have FI2 := Lib.hid (fun wx => refMoState_any F a b c wx)
  generalize Mo.isB F ⟨a, b, c⟩ = qB at FI1 FI2
  have FK1 := Lib.hid (fun wx => moSkip_any a b c wx)
  have FK2 := Lib.hid (fun wx => refMoSkip_any a b c wx)
  generalize Mo.skipF ⟨a, b, c⟩ = Y at FK1 FK2
  obtain ⟨y1, y2, y3⟩ := Y
  simp only [Mo.agg] at FK1 FK2
  have FL1 := Lib.hid (fun wx => moLate_any t0 t1 t2 t3 t4 t5 t6 t7 t8 a b c wx)
  have FL2 := Lib.hid (fun wx => refMoLate_any t0 t1 t2 t3 t4 t5 t6 t7 t8 a b c wx)
  generalize Mo.late t4 ⟨a, b, c⟩ = qL at FL1 FL2
  have eqn := eqlMo a' b' c' a' b' c'
  rw [Mo.same_self] at eqn
  have eqs := eqlMo y1 y2 y3 y1 y2 y3
  rw [Mo.same_self] at eqs
  have eB : (qB == qB) = true := by cases qB <;> rfl
  have eL : (qL == qL) = true := by cases qL <;> rfl
  have em : (m == m) = true := by simp
  have eo : (ok == ok) = true := by cases ok <;> rfl
  clear hX hT
  have HB0 := Lib.hid (bxs3 w (.cells #[.int .i64 t0, .int .i64 t1, .int .i64 t2, .int .i64 t3, .int .i64 t4, .int .i64 t5, .int .i64 t6, .int .i64 t7, .int .i64 t8] 27) (.cells #[.int .i64 a, .int .i64 b, .int .i64 c] 23) (.cells #[.int .i64 fl, .bool lv, .int .i64 f2, .bool f3] 25))
  go_enter Tryd.func7, Tryd.ntmps7
  go_wp2_with fail
  refine (FS.out _ HB0.out.below).mono ?_
  rintro e w1 ⟨rfl, hb1⟩
  have HB1 := Lib.hid (HB0.out.next hb1)
  clear hb1 HB0
  go_wp2_with (with_reducible show wpList _ _ _ (Oper.mk _ (.store 23 _ _) _ _ _ _ :: _) _ _; refine Hid.out ?_)
  refine Lib.hid ?_
  have l2_0 : w.heap.size < w1.heap.size := (Array.getElem?_eq_some_iff.1 HB1.out.r0).1
  have l2_1 : w.heap.size + 1 < w1.heap.size := (Array.getElem?_eq_some_iff.1 HB1.out.r1).1
  have l2_2 : w.heap.size + 2 < w1.heap.size := (Array.getElem?_eq_some_iff.1 HB1.out.r2).1
  have lw2 : w.heap.size ≤ w1.heap.size := HB1.out.below.size
  refine wpList_put rfl 23 _ _ rfl w1.heap.size #[.int .i64 a', .int .i64 b', .int .i64 c'] _ 23 rfl rfl (heap_alloc_new w1 _) (by kernel_rfl) rfl (by kernel_rfl) ?_
  intro w2 hr2 hg2
  have HB2 : Hid (Bx w [(w1.heap.size, .cells #[.int .i64 a', .int .i64 b', .int .i64 c'] 23 (0, 0)), (w.heap.size, .cells #[.int .i64 t0, .int .i64 t1, .int .i64 t2, .int .i64 t3, .int .i64 t4, .int .i64 t5, .int .i64 t6, .int .i64 t7, .int .i64 t8] 27 (0, 0)), (w.heap.size + 1, .cells #[.int .i64 a, .int .i64 b, .int .i64 c] 23 (0, 0)), (w.heap.size + 2, .cells #[.int .i64 fl, .bool lv, .int .i64 f2, .bool f3] 25 (0, 0))] w2) := Lib.hid ((HB1.out.make (heap_alloc_new w1 (.cells #[.int .i64 0, .int .i64 0, .int .i64 0] 23)) ((Below.refl w1.heap.size w1).alloc (Nat.le_refl _) _)).put HB1.out.below.size hg2.out hr2.out (by simp only [List.mem_cons, List.not_mem_nil, or_false]; rintro p (rfl | rfl | rfl | rfl) <;> simp <;> omega))
  clear hr2 hg2 HB1
  generalize w1.heap.size = ga at *
  have c2_0 : w2.cell? ⟨w.heap.size + 1, 0, none⟩ = some (.int .i64 a) := cell_of_row _ _ _ _ _ (0, 0) HB2.out.r2
  have c2_1 : w2.cell? ⟨w.heap.size + 1, 1, none⟩ = some (.int .i64 b) := cell_of_row _ _ _ _ _ (0, 0) HB2.out.r2
  have c2_2 : w2.cell? ⟨w.heap.size + 1, 2, none⟩ = some (.int .i64 c) := cell_of_row _ _ _ _ _ (0, 0) HB2.out.r2
  have c3_0 : w2.cell? ⟨w.heap.size + 2, 0, none⟩ = some (.int .i64 fl) := cell_of_row _ _ _ _ _ (0, 0) HB2.out.r3
  have c3_1 : w2.cell? ⟨w.heap.size + 2, 1, none⟩ = some (.bool lv) := cell_of_row _ _ _ _ _ (0, 0) HB2.out.r3
  have c3_2 : w2.cell? ⟨w.heap.size + 2, 2, none⟩ = some (.int .i64 f2) := cell_of_row _ _ _ _ _ (0, 0) HB2.out.r3
  have c3_3 : w2.cell? ⟨w.heap.size + 2, 3, none⟩ = some (.bool f3) := cell_of_row _ _ _ _ _ (0, 0) HB2.out.r3
  go_wp2_with fail
  refine (FR.out _).mono ?_
  rintro e w3 ⟨rfl, hb3⟩
  have HB3 := Lib.hid (HB2.out.next hb3)
  clear c2_0 c2_1 c2_2 c3_0 c3_1 c3_2 c3_3 hb3 HB2
  go_wp2_with (with_reducible show wpList _ _ _ (Oper.mk _ (.store 23 _ _) _ _ _ _ :: _) _ _; refine Hid.out ?_)
  refine Lib.hid ?_
  have l4_0 : ga < w3.heap.size := (Array.getElem?_eq_some_iff.1 HB3.out.r0).1
  have l4_1 : w.heap.size < w3.heap.size := (Array.getElem?_eq_some_iff.1 HB3.out.r1).1
  have l4_2 : w.heap.size + 1 < w3.heap.size := (Array.getElem?_eq_some_iff.1 HB3.out.r2).1
  have l4_3 : w.heap.size + 2 < w3.heap.size := (Array.getElem?_eq_some_iff.1 HB3.out.r3).1
  have lw4 : w.heap.size ≤ w3.heap.size := HB3.out.below.size
  refine wpList_put rfl 23 _ _ rfl w3.heap.size #[.int .i64 a', .int .i64 b', .int .i64 c'] _ 23 rfl rfl (heap_alloc_new w3 _) (by kernel_rfl) rfl (by kernel_rfl) ?_
  intro w4 hr4 hg4
  have HB4 : Hid (Bx w [(w3.heap.size, .cells #[.int .i64 a', .int .i64 b', .int .i64 c'] 23 (0, 0)), (ga, .cells #[.int .i64 a', .int .i64 b', .int .i64 c'] 23 (0, 0)), (w.heap.size, .cells #[.int .i64 t0, .int .i64 t1, .int .i64 t2, .int .i64 t3, .int .i64 t4, .int .i64 t5, .int .i64 t6, .int .i64 t7, .int .i64 t8] 27 (0, 0)), (w.heap.size + 1, .cells #[.int .i64 a, .int .i64 b, .int .i64 c] 23 (0, 0)), (w.heap.size + 2, .cells #[.int .i64 fl, .bool lv, .int .i64 f2, .bool f3] 25 (0, 0))] w4) := Lib.hid ((HB3.out.make (heap_alloc_new w3 (.cells #[.int .i64 0, .int .i64 0, .int .i64 0] 23)) ((Below.refl w3.heap.size w3).alloc (Nat.le_refl _) _)).put HB3.out.below.size hg4.out hr4.out (by simp only [List.mem_cons, List.not_mem_nil, or_false]; rintro p (rfl | rfl | rfl | rfl | rfl) <;> simp <;> omega))
  clear hr4 hg4 HB3
  generalize w3.heap.size = gb at *
  go_wp2_with fail
  refine Bag.region (fun wx => Below w4.heap.size w4 wx) (by kernel_rfl) (by kernel_rfl) (Below.refl _ _).drew ?_
  iterate 39 (first
      | (apply Bag.walk_yes (by rfl)
         (intro wx hx K hK
          have HXx := HB4.out.next hx
          have z0_0 : wx.cell? ⟨gb, 0, none⟩ = some (.int .i64 a') := cell_of_row _ _ _ _ _ (0, 0) HXx.r0
          have z0_1 : wx.cell? ⟨gb, 1, none⟩ = some (.int .i64 b') := cell_of_row _ _ _ _ _ (0, 0) HXx.r0
          have z0_2 : wx.cell? ⟨gb, 2, none⟩ = some (.int .i64 c') := cell_of_row _ _ _ _ _ (0, 0) HXx.r0
          have z1_0 : wx.cell? ⟨ga, 0, none⟩ = some (.int .i64 a') := cell_of_row _ _ _ _ _ (0, 0) HXx.r1
          have z1_1 : wx.cell? ⟨ga, 1, none⟩ = some (.int .i64 b') := cell_of_row _ _ _ _ _ (0, 0) HXx.r1
          have z1_2 : wx.cell? ⟨ga, 2, none⟩ = some (.int .i64 c') := cell_of_row _ _ _ _ _ (0, 0) HXx.r1
          have z2_0 : wx.cell? ⟨w.heap.size, 0, none⟩ = some (.int .i64 t0) := cell_of_row _ _ _ _ _ (0, 0) HXx.r2
          have z2_1 : wx.cell? ⟨w.heap.size, 1, none⟩ = some (.int .i64 t1) := cell_of_row _ _ _ _ _ (0, 0) HXx.r2
          have z2_2 : wx.cell? ⟨w.heap.size, 2, none⟩ = some (.int .i64 t2) := cell_of_row _ _ _ _ _ (0, 0) HXx.r2
          have z2_3 : wx.cell? ⟨w.heap.size, 3, none⟩ = some (.int .i64 t3) := cell_of_row _ _ _ _ _ (0, 0) HXx.r2
          have z2_4 : wx.cell? ⟨w.heap.size, 4, none⟩ = some (.int .i64 t4) := cell_of_row _ _ _ _ _ (0, 0) HXx.r2
          have z2_5 : wx.cell? ⟨w.heap.size, 5, none⟩ = some (.int .i64 t5) := cell_of_row _ _ _ _ _ (0, 0) HXx.r2
          have z2_6 : wx.cell? ⟨w.heap.size, 6, none⟩ = some (.int .i64 t6) := cell_of_row _ _ _ _ _ (0, 0) HXx.r2
          have z2_7 : wx.cell? ⟨w.heap.size, 7, none⟩ = some (.int .i64 t7) := cell_of_row _ _ _ _ _ (0, 0) HXx.r2
          have z2_8 : wx.cell? ⟨w.heap.size, 8, none⟩ = some (.int .i64 t8) := cell_of_row _ _ _ _ _ (0, 0) HXx.r2
          have z3_0 : wx.cell? ⟨w.heap.size + 1, 0, none⟩ = some (.int .i64 a) := cell_of_row _ _ _ _ _ (0, 0) HXx.r3
          have z3_1 : wx.cell? ⟨w.heap.size + 1, 1, none⟩ = some (.int .i64 b) := cell_of_row _ _ _ _ _ (0, 0) HXx.r3
          have z3_2 : wx.cell? ⟨w.heap.size + 1, 2, none⟩ = some (.int .i64 c) := cell_of_row _ _ _ _ _ (0, 0) HXx.r3
          first
            | (go_simp
               first
                | (go_at_call 13; (with_reducible refine (FI1.out _ HXx.below).mono ?_); rintro e x1 ⟨rfl, hb⟩; exact hK _ (hx.trans (hb.mono hx.size)))
                | (go_at_call 14; (with_reducible refine (FI2.out _).mono ?_); rintro e x1 ⟨rfl, hb⟩; exact hK _ (hx.trans (hb.mono hx.size)))
                | (go_at_call 11; (with_reducible refine (FK1.out _).mono ?_); rintro e x1 ⟨rfl, hb⟩; exact hK _ (hx.trans (hb.mono hx.size)))
                | (go_at_call 15; (with_reducible refine (FK2.out _).mono ?_); rintro e x1 ⟨rfl, hb⟩; exact hK _ (hx.trans (hb.mono hx.size)))
                | (go_at_call 10; (with_reducible refine (FL1.out _).mono ?_); rintro e x1 ⟨rfl, hb⟩; exact hK _ (hx.trans (hb.mono hx.size)))
                | (go_at_call 16; (with_reducible refine (FL2.out _).mono ?_); rintro e x1 ⟨rfl, hb⟩; exact hK _ (hx.trans (hb.mono hx.size)))
                | (go_at_K; exact hK _ hx)))
         rfl)
      | (refine Bag.walk_no (by rfl) ?_; simp only [Act.put, List.setIfInBounds_toArray, List.set_cons_succ, List.set_cons_zero]))
  refine Bag.walk_nil (fun w5 hb5 => ?_)
  have HB5 := Lib.hid (HB4.out.next hb5)
  clear hb5 HB4
  go_wp2_with fail
  go_ret
  exact ⟨rfl, HB5.out.below⟩
end Go.Proofs.YtcbmpcnanknncaaDoor
