/- sane() of stage 11. No statement of the seat is proved here. -/
import Derived.Test.YteniimbcbjbegaaDoorCvTop
namespace Go.Proofs.YteniimbcbjbegaaDoor
open Go.RowKit

theorem ch3Row {wx : World} {g : Nat} {x y z : Value} (h : wx.heap[g]? = some (.cells #[x, y, z] 38 (0, 0))) :
    wx.cell? ⟨g, 0, none⟩ = some x ∧ wx.cell? ⟨g, 1, none⟩ = some y ∧ wx.cell? ⟨g, 2, none⟩ = some z :=
  ⟨cell_of_row wx _ _ _ _ (0, 0) h, cell_of_row wx _ _ _ _ (0, 0) h, cell_of_row wx _ _ _ _ (0, 0) h⟩
set_option maxHeartbeats 2000000 in
theorem sane11_any (w : World) (hT : Tabs w) :
    Calls Tryd.prog 10 #[] w fun e w' => e = .returned (.bool true) ∧ Below w.heap.size w w' := by
  have F1 := Lib.hid (fun wx (hb : Below w.heap.size w wx) => ChooseGood_any 5 2 1 0 ⟨4, ⟨8, 0⟩⟩ wx (by decide) (by decide) (by decide) (by decide) (by decide) ⟨by decide, by decide, by decide⟩ (hT.below hb))
  have F2 := Lib.hid (fun wx (hb : Below w.heap.size w wx) => ChooseGood_any 5 2 1 0 ⟨0, ⟨0, 4⟩⟩ wx (by decide) (by decide) (by decide) (by decide) (by decide) ⟨by decide, by decide, by decide⟩ (hT.below hb))
  have F3 := Lib.hid (fun wx (hb : Below w.heap.size w wx) => ChooseGood_any 5 2 0 0 ⟨17, ⟨0, 0⟩⟩ wx (by decide) (by decide) (by decide) (by decide) (by decide) ⟨by decide, by decide, by decide⟩ (hT.below hb))
  rw [show Cv.choose (Cv.look 5 0 2 ⟨4, ⟨8, 0⟩⟩) 1 = Cv.openC 1 by decide +kernel] at F1
  rw [show Cv.choose (Cv.look 5 0 2 ⟨0, ⟨0, 4⟩⟩) 1 = Cv.openC 2 by decide +kernel] at F2
  rw [show Cv.choose (Cv.look 5 0 2 ⟨17, ⟨0, 0⟩⟩) 0 = Cv.moveC 1 by decide +kernel] at F3
  have e1 := eqlCh 3 1 1 3 1 1
  have e2 := eqlCh 3 2 2 3 2 2
  have e3 := eqlCh 1 1 0 1 1 0
  go_enter Tryd.func10, Tryd.ntmps10
  go_wp2_with fail
  refine (F1.out _ (Below.refl _ _)).mono ?_
  rintro e w1 ⟨rfl, hb1⟩
  go_wp2_with (with_reducible show wpList _ _ _ (Oper.mk _ (.store 38 _ _) _ _ _ _ :: _) _ _; refine wpList_put rfl 38 _ _ rfl w1.heap.size #[.int .i64 3, .int .i64 1, .int .i64 1] _ 38 rfl rfl (heap_alloc_new w1 _) (by kernel_rfl) rfl (by kernel_rfl) ?_; intro w2 hr2 hg2; refine Hid.out ?_)
  have HB2 : Hid (Bx w [(w1.heap.size, .cells #[.int .i64 3, .int .i64 1, .int .i64 1] 38 (0, 0))] w2) := Lib.hid ⟨hb1.trans ((((Below.refl w.heap.size w1).alloc hb1.size _)).grown hg2.out (by have := hb1.size; simp; omega) (fun k hk => by have := Option.some.inj hk; have := hb1.size; omega)), by simpa using hr2.out⟩
  generalize w1.heap.size = g1 at *
  clear hr2 hg2 hb1
  refine Lib.hid ?_
  go_wp2_with fail
  refine (F2.out _ HB2.out.below).mono ?_
  rintro e w3 ⟨rfl, hb3⟩
  have HB3 := Lib.hid (HB2.out.next hb3)
  have hl3 : g1 < w3.heap.size := (Array.getElem?_eq_some_iff.1 HB3.out.r0).1
  clear hb3 HB2
  go_wp2_with (with_reducible show wpList _ _ _ (Oper.mk _ (.store 38 _ _) _ _ _ _ :: _) _ _; refine wpList_put rfl 38 _ _ rfl w3.heap.size #[.int .i64 3, .int .i64 2, .int .i64 2] _ 38 rfl rfl (heap_alloc_new w3 _) (by kernel_rfl) rfl (by kernel_rfl) ?_; intro w4 hr4 hg4; refine Hid.out ?_)
  have HB4 : Hid (Bx w [(w3.heap.size, .cells #[.int .i64 3, .int .i64 2, .int .i64 2] 38 (0, 0)), (g1, .cells #[.int .i64 3, .int .i64 1, .int .i64 1] 38 (0, 0))] w4) := Lib.hid ((HB3.out.make (heap_alloc_new w3 (.cells #[.int .i64 0, .int .i64 0, .int .i64 0] 38)) ((Below.refl w3.heap.size w3).alloc (Nat.le_refl _) _)).put HB3.out.below.size hg4.out hr4.out (by simp only [List.mem_cons, List.not_mem_nil, or_false]; rintro p (rfl | rfl) <;> simp <;> omega))
  generalize w3.heap.size = g3 at *
  clear hr4 hg4 HB3
  refine Lib.hid ?_
  go_wp2_with fail
  refine (F3.out _ HB4.out.below).mono ?_
  rintro e w5 ⟨rfl, hb5⟩
  have HB5 := Lib.hid (HB4.out.next hb5)
  have hl5 : g1 < w5.heap.size := (Array.getElem?_eq_some_iff.1 HB5.out.r1).1
  have hl5' : g3 < w5.heap.size := (Array.getElem?_eq_some_iff.1 HB5.out.r0).1
  clear hb5 HB4
  go_wp2_with (with_reducible show wpList _ _ _ (Oper.mk _ (.store 38 _ _) _ _ _ _ :: _) _ _; refine wpList_put rfl 38 _ _ rfl w5.heap.size #[.int .i64 1, .int .i64 1, .int .i64 0] _ 38 rfl rfl (heap_alloc_new w5 _) (by kernel_rfl) rfl (by kernel_rfl) ?_; intro w6 hr6 hg6; refine Hid.out ?_)
  have HB6 : Hid (Bx w [(w5.heap.size, .cells #[.int .i64 1, .int .i64 1, .int .i64 0] 38 (0, 0)), (g3, .cells #[.int .i64 3, .int .i64 2, .int .i64 2] 38 (0, 0)), (g1, .cells #[.int .i64 3, .int .i64 1, .int .i64 1] 38 (0, 0))] w6) := Lib.hid ((HB5.out.make (heap_alloc_new w5 (.cells #[.int .i64 0, .int .i64 0, .int .i64 0] 38)) ((Below.refl w5.heap.size w5).alloc (Nat.le_refl _) _)).put HB5.out.below.size hg6.out hr6.out (by simp only [List.mem_cons, List.not_mem_nil, or_false]; rintro p (rfl | rfl | rfl) <;> simp <;> omega))
  generalize w5.heap.size = g5 at *
  clear hr6 hg6 HB5
  refine Lib.hid ?_
  obtain ⟨a0, a1, a2⟩ := ch3Row HB6.out.r0
  obtain ⟨b0, b1, b2⟩ := ch3Row HB6.out.r1
  obtain ⟨c0, c1, c2⟩ := ch3Row HB6.out.r2
  go_wp2_with fail
  go_ret
  exact ⟨rfl, HB6.out.below⟩
end Go.Proofs.YteniimbcbjbegaaDoor
