/- The law MotionWaits: a car that is not level gets no command until it is, and is Late behind Step ticks. No condition but the listed table. -/
import Derived.Test.YtcbmpcnanknncaaDoorMoSane
import Derived.Test.YtcbmpcnanknncaaDoorMoOpen
import Derived.Test.YtcbmpcnanknncaaDoorCards
import Derived.Test.YtcbmpcnanknncaaDoorTie
import Derived.SevenTiedAt
import Derived.Deep.CutRange
namespace Go.Proofs.YtcbmpcnanknncaaDoor
open Go.RowKit Go.ChangeShapes Go.WideShapes Go.ChangeAt

set_option maxRecDepth 100000 in
set_option maxHeartbeats 8000000 in
theorem lawMotionWaits_walk (n0 y0 k : Int) (w : World) (hT : Tabs w) (h0 : (Lit.int .u8 n0).wf = true) (h1 : (Lit.int .u8 y0).wf = true) (_h2 : (Lit.int .i64 k).wf = true) :
    Calls Tryd.prog 5 #[.int .u8 n0, .int .u8 y0, .int .i64 k] w fun e w' => e = .returned (.bool true) ∧ Below w.heap.size w w' := by
  obtain ⟨n, rfl, hn⟩ := u8_nat h0
  obtain ⟨y, rfl, hy⟩ := u8_nat h1
  clear h0 h1
  obtain ⟨st, hSe, hS⟩ : ∃ st : Int, (1 : Int) + (y : Int) % 20 = st ∧ (1 ≤ st ∧ st ≤ 20) := ⟨_, rfl, by omega⟩
  obtain ⟨N, hNe, hN⟩ : ∃ N : Nat, (n : Int) % 40 = (N : Int) ∧ N < 40 := ⟨n % 40, rfl, by omega⟩
  have HT := Lib.hid (fun wx (hb : Below w.heap.size w wx) => hT.below hb)
  have FN := Lib.hid (fun wx (hb : Below w.heap.size w wx) => sane13_any wx (hT.below hb))
  have eqz := eqlMo 0 0 0 0 0 0
  rw [Mo.same_self] at eqz
  clear hT
  have HB0 : Hid (Bx w [] w) := Lib.hid ⟨Below.refl _ _, fun p hp => by simp at hp⟩
  go_enter Tryd.func5, Tryd.ntmps5
  go_wp2_with (with_reducible show wpList _ _ _ (Oper.mk _ (.store 27 _ _) _ _ _ _ :: _) _ _; refine Hid.out ?_)
  refine Lib.hid ?_
  refine wpList_put rfl 27 _ _ rfl w.heap.size #[.int .i64 0, .int .i64 0, .int .i64 0, .int .i64 0, .int .i64 st, .int .i64 0, .int .i64 0, .int .i64 0, .int .i64 0] _ 27 rfl rfl (heap_alloc_new w _) (by kernel_rfl) rfl (by kernel_rfl) ?_
  intro w1 hr1 hg1
  have HB1 : Hid (Bx w [(w.heap.size, .cells #[.int .i64 0, .int .i64 0, .int .i64 0, .int .i64 0, .int .i64 st, .int .i64 0, .int .i64 0, .int .i64 0, .int .i64 0] 27 (0, 0))] w1) := Lib.hid ((HB0.out.make (heap_alloc_new w (.cells #[.int .i64 0, .int .i64 0, .int .i64 0, .int .i64 0, .int .i64 0, .int .i64 0, .int .i64 0, .int .i64 0, .int .i64 0] 27)) ((Below.refl w.heap.size w).alloc (Nat.le_refl _) _)).put HB0.out.below.size hg1.out hr1.out (by simp only [List.mem_cons, List.not_mem_nil, or_false]; rintro p rfl <;> simp <;> omega))
  clear hr1 hg1 HB0
  go_wp2_with (with_reducible show wpList _ _ _ (Oper.mk _ (.store 23 _ _) _ _ _ _ :: _) _ _; refine Hid.out ?_)
  refine Lib.hid ?_
  have l2_0 : w.heap.size < w1.heap.size := (Array.getElem?_eq_some_iff.1 HB1.out.r0).1
  have lw2 : w.heap.size ≤ w1.heap.size := HB1.out.below.size
  refine wpList_put rfl 23 _ _ rfl w1.heap.size #[.int .i64 0, .int .i64 0, .int .i64 0] _ 23 rfl rfl (heap_alloc_new w1 _) (by kernel_rfl) rfl (by kernel_rfl) ?_
  intro w2 hr2 hg2
  have HB2 : Hid (Bx w [(w1.heap.size, .cells #[.int .i64 0, .int .i64 0, .int .i64 0] 23 (0, 0)), (w.heap.size, .cells #[.int .i64 0, .int .i64 0, .int .i64 0, .int .i64 0, .int .i64 st, .int .i64 0, .int .i64 0, .int .i64 0, .int .i64 0] 27 (0, 0))] w2) := Lib.hid ((HB1.out.make (heap_alloc_new w1 (.cells #[.int .i64 0, .int .i64 0, .int .i64 0] 23)) ((Below.refl w1.heap.size w1).alloc (Nat.le_refl _) _)).put HB1.out.below.size hg2.out hr2.out (by simp only [List.mem_cons, List.not_mem_nil, or_false]; rintro p (rfl | rfl) <;> simp <;> omega))
  clear hr2 hg2 HB1
  generalize w1.heap.size = gs at *
  go_wp2_with fail
  clear hSe
  go_loopw [9] (fun vi wr => ∃ j : Nat, j ≤ N ∧ vi = .int .i64 ((j : Int) + 1) ∧ Bx w [(gs, .cells #[.int .i64 0, .int .i64 (j : Int), .int .i64 0] 23 (0, 0)), (w.heap.size, .cells #[.int .i64 0, .int .i64 0, .int .i64 0, .int .i64 0, .int .i64 st, .int .i64 0, .int .i64 0, .int .i64 0, .int .i64 0] 27 (0, 0))] wr) (fun vi _ => 41 - (intOf vi).toNat)
  case atStart => exact ⟨0, Nat.zero_le _, rfl, HB2.out⟩
  case round =>
    obtain ⟨j, hj, rfl, hbr⟩ := hrel
    have HBR := Lib.hid hbr
    clear hbr HB2
    by_cases hlt : j < N
    · have hc : (j : Int) + 1 ≤ (N : Int) := by omega
      have hcB : decide ((j : Int) + 1 ≤ (N : Int)) = true := decide_eq_true hc
      have FS := Lib.hid (fun wx (hb : Below w.heap.size w wx) => mostep_to 5 0 j 0 2 false 0 false k 0 (j + 1) 0 0 false wx (HT.out _ hb) (Mo.step_wait (by decide) (by omega) (by decide) (by decide)))
      have FL := Lib.hid (fun wx => moLate_any 0 0 0 0 st 0 0 0 0 0 (j + 1) 0 wx)
      rw [show Mo.late st ⟨0, j + 1, 0⟩ = decide (st < (j : Int) + 1) from rfl] at FL
      obtain ⟨q, hq⟩ : ∃ q, decide (st < (j : Int) + 1) = q := ⟨_, rfl⟩
      rw [hq] at FL
      have hq2 : decide ((j : Int) + 1 > st) = q := hq
      have hqq : (q != q) = false := by cases q <;> rfl
      have hw : IntKind.i64.wrap ((j : Int) + 1 + 1) = ((j + 1 : Nat) : Int) + 1 := by rw [IntKind.wrap_i64]; omega
      have c0_0 : wr.cell? ⟨gs, 0, none⟩ = some (.int .i64 0) := cell_of_row _ _ _ _ _ (0, 0) HBR.out.r0
      have c0_1 : wr.cell? ⟨gs, 1, none⟩ = some (.int .i64 (j : Int)) := cell_of_row _ _ _ _ _ (0, 0) HBR.out.r0
      have c0_2 : wr.cell? ⟨gs, 2, none⟩ = some (.int .i64 0) := cell_of_row _ _ _ _ _ (0, 0) HBR.out.r0
      have c1_0 : wr.cell? ⟨w.heap.size, 0, none⟩ = some (.int .i64 0) := cell_of_row _ _ _ _ _ (0, 0) HBR.out.r1
      have c1_1 : wr.cell? ⟨w.heap.size, 1, none⟩ = some (.int .i64 0) := cell_of_row _ _ _ _ _ (0, 0) HBR.out.r1
      have c1_2 : wr.cell? ⟨w.heap.size, 2, none⟩ = some (.int .i64 0) := cell_of_row _ _ _ _ _ (0, 0) HBR.out.r1
      have c1_3 : wr.cell? ⟨w.heap.size, 3, none⟩ = some (.int .i64 0) := cell_of_row _ _ _ _ _ (0, 0) HBR.out.r1
      have c1_4 : wr.cell? ⟨w.heap.size, 4, none⟩ = some (.int .i64 st) := cell_of_row _ _ _ _ _ (0, 0) HBR.out.r1
      have c1_5 : wr.cell? ⟨w.heap.size, 5, none⟩ = some (.int .i64 0) := cell_of_row _ _ _ _ _ (0, 0) HBR.out.r1
      have c1_6 : wr.cell? ⟨w.heap.size, 6, none⟩ = some (.int .i64 0) := cell_of_row _ _ _ _ _ (0, 0) HBR.out.r1
      have c1_7 : wr.cell? ⟨w.heap.size, 7, none⟩ = some (.int .i64 0) := cell_of_row _ _ _ _ _ (0, 0) HBR.out.r1
      have c1_8 : wr.cell? ⟨w.heap.size, 8, none⟩ = some (.int .i64 0) := cell_of_row _ _ _ _ _ (0, 0) HBR.out.r1
      go_wp2_with fail
      refine (FS.out _ HBR.out.below).mono ?_
      rintro e w3 ⟨rfl, hb3⟩
      have HB3 := Lib.hid (HBR.out.next hb3)
      clear c0_0 c0_1 c0_2 c1_0 c1_1 c1_2 c1_3 c1_4 c1_5 c1_6 c1_7 c1_8 hb3 HBR
      have c0_0 : w3.cell? ⟨gs, 0, none⟩ = some (.int .i64 0) := cell_of_row _ _ _ _ _ (0, 0) HB3.out.r0
      have c0_1 : w3.cell? ⟨gs, 1, none⟩ = some (.int .i64 (j : Int)) := cell_of_row _ _ _ _ _ (0, 0) HB3.out.r0
      have c0_2 : w3.cell? ⟨gs, 2, none⟩ = some (.int .i64 0) := cell_of_row _ _ _ _ _ (0, 0) HB3.out.r0
      have c1_0 : w3.cell? ⟨w.heap.size, 0, none⟩ = some (.int .i64 0) := cell_of_row _ _ _ _ _ (0, 0) HB3.out.r1
      have c1_1 : w3.cell? ⟨w.heap.size, 1, none⟩ = some (.int .i64 0) := cell_of_row _ _ _ _ _ (0, 0) HB3.out.r1
      have c1_2 : w3.cell? ⟨w.heap.size, 2, none⟩ = some (.int .i64 0) := cell_of_row _ _ _ _ _ (0, 0) HB3.out.r1
      have c1_3 : w3.cell? ⟨w.heap.size, 3, none⟩ = some (.int .i64 0) := cell_of_row _ _ _ _ _ (0, 0) HB3.out.r1
      have c1_4 : w3.cell? ⟨w.heap.size, 4, none⟩ = some (.int .i64 st) := cell_of_row _ _ _ _ _ (0, 0) HB3.out.r1
      have c1_5 : w3.cell? ⟨w.heap.size, 5, none⟩ = some (.int .i64 0) := cell_of_row _ _ _ _ _ (0, 0) HB3.out.r1
      have c1_6 : w3.cell? ⟨w.heap.size, 6, none⟩ = some (.int .i64 0) := cell_of_row _ _ _ _ _ (0, 0) HB3.out.r1
      have c1_7 : w3.cell? ⟨w.heap.size, 7, none⟩ = some (.int .i64 0) := cell_of_row _ _ _ _ _ (0, 0) HB3.out.r1
      have c1_8 : w3.cell? ⟨w.heap.size, 8, none⟩ = some (.int .i64 0) := cell_of_row _ _ _ _ _ (0, 0) HB3.out.r1
      go_wp2_with (with_reducible show wpList _ _ _ (Oper.mk _ (.store 23 _ _) _ _ _ _ :: _) _ _; refine Hid.out ?_)
      refine Lib.hid ?_
      have l4_0 : gs < w3.heap.size := (Array.getElem?_eq_some_iff.1 HB3.out.r0).1
      have l4_1 : w.heap.size < w3.heap.size := (Array.getElem?_eq_some_iff.1 HB3.out.r1).1
      have lw4 : w.heap.size ≤ w3.heap.size := HB3.out.below.size
      refine wpList_put rfl 23 _ _ rfl w3.heap.size #[.int .i64 0, .int .i64 ((j : Int) + 1), .int .i64 0] _ 23 rfl rfl (heap_alloc_new w3 _) (by kernel_rfl) rfl (by kernel_rfl) ?_
      intro w4 hr4 hg4
      have HB4 : Hid (Bx w [(w3.heap.size, .cells #[.int .i64 0, .int .i64 ((j : Int) + 1), .int .i64 0] 23 (0, 0)), (gs, .cells #[.int .i64 0, .int .i64 (j : Int), .int .i64 0] 23 (0, 0)), (w.heap.size, .cells #[.int .i64 0, .int .i64 0, .int .i64 0, .int .i64 0, .int .i64 st, .int .i64 0, .int .i64 0, .int .i64 0, .int .i64 0] 27 (0, 0))] w4) := Lib.hid ((HB3.out.make (heap_alloc_new w3 (.cells #[.int .i64 0, .int .i64 0, .int .i64 0] 23)) ((Below.refl w3.heap.size w3).alloc (Nat.le_refl _) _)).put HB3.out.below.size hg4.out hr4.out (by simp only [List.mem_cons, List.not_mem_nil, or_false]; rintro p (rfl | rfl | rfl) <;> simp <;> omega))
      clear c0_0 c0_1 c0_2 c1_0 c1_1 c1_2 c1_3 c1_4 c1_5 c1_6 c1_7 c1_8 hr4 hg4 HB3
      generalize w3.heap.size = gt at *
      go_wp2_with fail
      refine Bag.region (fun wx => Below w4.heap.size w4 wx) (by kernel_rfl) (by kernel_rfl) (Below.refl _ _).drew ?_
      iterate 21 (first
          | (apply Bag.walk_yes (by rfl)
             (intro wx hx K hK
              have HXx := HB4.out.next hx
              have z0_0 : wx.cell? ⟨gt, 0, none⟩ = some (.int .i64 0) := cell_of_row _ _ _ _ _ (0, 0) HXx.r0
              have z0_1 : wx.cell? ⟨gt, 1, none⟩ = some (.int .i64 ((j : Int) + 1)) := cell_of_row _ _ _ _ _ (0, 0) HXx.r0
              have z0_2 : wx.cell? ⟨gt, 2, none⟩ = some (.int .i64 0) := cell_of_row _ _ _ _ _ (0, 0) HXx.r0
              have z2_0 : wx.cell? ⟨w.heap.size, 0, none⟩ = some (.int .i64 0) := cell_of_row _ _ _ _ _ (0, 0) HXx.r2
              have z2_1 : wx.cell? ⟨w.heap.size, 1, none⟩ = some (.int .i64 0) := cell_of_row _ _ _ _ _ (0, 0) HXx.r2
              have z2_2 : wx.cell? ⟨w.heap.size, 2, none⟩ = some (.int .i64 0) := cell_of_row _ _ _ _ _ (0, 0) HXx.r2
              have z2_3 : wx.cell? ⟨w.heap.size, 3, none⟩ = some (.int .i64 0) := cell_of_row _ _ _ _ _ (0, 0) HXx.r2
              have z2_4 : wx.cell? ⟨w.heap.size, 4, none⟩ = some (.int .i64 st) := cell_of_row _ _ _ _ _ (0, 0) HXx.r2
              have z2_5 : wx.cell? ⟨w.heap.size, 5, none⟩ = some (.int .i64 0) := cell_of_row _ _ _ _ _ (0, 0) HXx.r2
              have z2_6 : wx.cell? ⟨w.heap.size, 6, none⟩ = some (.int .i64 0) := cell_of_row _ _ _ _ _ (0, 0) HXx.r2
              have z2_7 : wx.cell? ⟨w.heap.size, 7, none⟩ = some (.int .i64 0) := cell_of_row _ _ _ _ _ (0, 0) HXx.r2
              have z2_8 : wx.cell? ⟨w.heap.size, 8, none⟩ = some (.int .i64 0) := cell_of_row _ _ _ _ _ (0, 0) HXx.r2
              first
                | (go_simp
                   first
                    | (go_at_call 10; (with_reducible refine (FL.out _).mono ?_); rintro e x1 ⟨rfl, hb⟩; exact hK _ (hx.trans (hb.mono hx.size)))
                    | (go_at_K; exact hK _ hx)))
             rfl)
          | (refine Bag.walk_no (by rfl) ?_; simp only [Act.put, List.setIfInBounds_toArray, List.set_cons_succ, List.set_cons_zero]))
      refine Bag.walk_nil (fun w5 hb5 => ?_)
      have HB5 := Lib.hid (HB4.out.next hb5)
      clear hb5 HB4
      have c0_0 : w5.cell? ⟨gt, 0, none⟩ = some (.int .i64 0) := cell_of_row _ _ _ _ _ (0, 0) HB5.out.r0
      have c0_1 : w5.cell? ⟨gt, 1, none⟩ = some (.int .i64 ((j : Int) + 1)) := cell_of_row _ _ _ _ _ (0, 0) HB5.out.r0
      have c0_2 : w5.cell? ⟨gt, 2, none⟩ = some (.int .i64 0) := cell_of_row _ _ _ _ _ (0, 0) HB5.out.r0
      have c1_0 : w5.cell? ⟨gs, 0, none⟩ = some (.int .i64 0) := cell_of_row _ _ _ _ _ (0, 0) HB5.out.r1
      have c1_1 : w5.cell? ⟨gs, 1, none⟩ = some (.int .i64 (j : Int)) := cell_of_row _ _ _ _ _ (0, 0) HB5.out.r1
      have c1_2 : w5.cell? ⟨gs, 2, none⟩ = some (.int .i64 0) := cell_of_row _ _ _ _ _ (0, 0) HB5.out.r1
      have c2_0 : w5.cell? ⟨w.heap.size, 0, none⟩ = some (.int .i64 0) := cell_of_row _ _ _ _ _ (0, 0) HB5.out.r2
      have c2_1 : w5.cell? ⟨w.heap.size, 1, none⟩ = some (.int .i64 0) := cell_of_row _ _ _ _ _ (0, 0) HB5.out.r2
      have c2_2 : w5.cell? ⟨w.heap.size, 2, none⟩ = some (.int .i64 0) := cell_of_row _ _ _ _ _ (0, 0) HB5.out.r2
      have c2_3 : w5.cell? ⟨w.heap.size, 3, none⟩ = some (.int .i64 0) := cell_of_row _ _ _ _ _ (0, 0) HB5.out.r2
      have c2_4 : w5.cell? ⟨w.heap.size, 4, none⟩ = some (.int .i64 st) := cell_of_row _ _ _ _ _ (0, 0) HB5.out.r2
      have c2_5 : w5.cell? ⟨w.heap.size, 5, none⟩ = some (.int .i64 0) := cell_of_row _ _ _ _ _ (0, 0) HB5.out.r2
      have c2_6 : w5.cell? ⟨w.heap.size, 6, none⟩ = some (.int .i64 0) := cell_of_row _ _ _ _ _ (0, 0) HB5.out.r2
      have c2_7 : w5.cell? ⟨w.heap.size, 7, none⟩ = some (.int .i64 0) := cell_of_row _ _ _ _ _ (0, 0) HB5.out.r2
      have c2_8 : w5.cell? ⟨w.heap.size, 8, none⟩ = some (.int .i64 0) := cell_of_row _ _ _ _ _ (0, 0) HB5.out.r2
      go_wp2_with (with_reducible show wpList _ _ _ (Oper.mk _ (.store 23 _ _) _ _ _ _ :: _) _ _; refine Hid.out ?_)
      refine Lib.hid ?_
      refine wpList_put rfl 23 _ _ rfl (gs) #[.int .i64 0, .int .i64 ((j : Int) + 1), .int .i64 0] _ 23 rfl rfl HB5.out.r1 (by kernel_rfl) rfl (by kernel_rfl) ?_
      intro w6 hr6 hg6
      have HB6 : Hid (Bx w [(gt, .cells #[.int .i64 0, .int .i64 ((j : Int) + 1), .int .i64 0] 23 (0, 0)), (gs, .cells #[.int .i64 0, .int .i64 ((j : Int) + 1), .int .i64 0] 23 (0, 0)), (w.heap.size, .cells #[.int .i64 0, .int .i64 0, .int .i64 0, .int .i64 0, .int .i64 st, .int .i64 0, .int .i64 0, .int .i64 0, .int .i64 0] 27 (0, 0))] w6) := Lib.hid (HB5.out.put (by omega) hg6.out hr6.out (by simp only [List.mem_cons, List.not_mem_nil, or_false]; rintro p (rfl | rfl | rfl) <;> simp <;> omega))
      clear c0_0 c0_1 c0_2 c1_0 c1_1 c1_2 c2_0 c2_1 c2_2 c2_3 c2_4 c2_5 c2_6 c2_7 c2_8 hr6 hg6 HB5
      go_wp2_with fail
      go_roundw
      case rel => exact ⟨j + 1, by omega, by first | rfl | go_num, (HB6.out.less (by simp only [List.mem_cons, List.not_mem_nil, or_false]; rintro p (rfl | rfl) <;> simp))⟩
      case measure => simp [intOf]; omega
    · obtain rfl : j = N := by omega
      have hc : ¬ (j : Int) + 1 ≤ (j : Int) := by omega
      have FE := Lib.hid (fun wx (hb : Below w.heap.size w wx) => mostep_to 5 0 j 0 2 true 0 false 0 0 0 0 0 false wx (HT.out _ hb) (Mo.step_none (by decide) (by omega) (by decide) (by decide)))
      have c0_0 : wr.cell? ⟨gs, 0, none⟩ = some (.int .i64 0) := cell_of_row _ _ _ _ _ (0, 0) HBR.out.r0
      have c0_1 : wr.cell? ⟨gs, 1, none⟩ = some (.int .i64 (j : Int)) := cell_of_row _ _ _ _ _ (0, 0) HBR.out.r0
      have c0_2 : wr.cell? ⟨gs, 2, none⟩ = some (.int .i64 0) := cell_of_row _ _ _ _ _ (0, 0) HBR.out.r0
      have c1_0 : wr.cell? ⟨w.heap.size, 0, none⟩ = some (.int .i64 0) := cell_of_row _ _ _ _ _ (0, 0) HBR.out.r1
      have c1_1 : wr.cell? ⟨w.heap.size, 1, none⟩ = some (.int .i64 0) := cell_of_row _ _ _ _ _ (0, 0) HBR.out.r1
      have c1_2 : wr.cell? ⟨w.heap.size, 2, none⟩ = some (.int .i64 0) := cell_of_row _ _ _ _ _ (0, 0) HBR.out.r1
      have c1_3 : wr.cell? ⟨w.heap.size, 3, none⟩ = some (.int .i64 0) := cell_of_row _ _ _ _ _ (0, 0) HBR.out.r1
      have c1_4 : wr.cell? ⟨w.heap.size, 4, none⟩ = some (.int .i64 st) := cell_of_row _ _ _ _ _ (0, 0) HBR.out.r1
      have c1_5 : wr.cell? ⟨w.heap.size, 5, none⟩ = some (.int .i64 0) := cell_of_row _ _ _ _ _ (0, 0) HBR.out.r1
      have c1_6 : wr.cell? ⟨w.heap.size, 6, none⟩ = some (.int .i64 0) := cell_of_row _ _ _ _ _ (0, 0) HBR.out.r1
      have c1_7 : wr.cell? ⟨w.heap.size, 7, none⟩ = some (.int .i64 0) := cell_of_row _ _ _ _ _ (0, 0) HBR.out.r1
      have c1_8 : wr.cell? ⟨w.heap.size, 8, none⟩ = some (.int .i64 0) := cell_of_row _ _ _ _ _ (0, 0) HBR.out.r1
      go_wp2_with fail
      refine (FE.out _ HBR.out.below).mono ?_
      rintro e w3 ⟨rfl, hb3⟩
      have HB3 := Lib.hid (HBR.out.next hb3)
      clear c0_0 c0_1 c0_2 c1_0 c1_1 c1_2 c1_3 c1_4 c1_5 c1_6 c1_7 c1_8 hb3 HBR
      have c0_0 : w3.cell? ⟨gs, 0, none⟩ = some (.int .i64 0) := cell_of_row _ _ _ _ _ (0, 0) HB3.out.r0
      have c0_1 : w3.cell? ⟨gs, 1, none⟩ = some (.int .i64 (j : Int)) := cell_of_row _ _ _ _ _ (0, 0) HB3.out.r0
      have c0_2 : w3.cell? ⟨gs, 2, none⟩ = some (.int .i64 0) := cell_of_row _ _ _ _ _ (0, 0) HB3.out.r0
      have c1_0 : w3.cell? ⟨w.heap.size, 0, none⟩ = some (.int .i64 0) := cell_of_row _ _ _ _ _ (0, 0) HB3.out.r1
      have c1_1 : w3.cell? ⟨w.heap.size, 1, none⟩ = some (.int .i64 0) := cell_of_row _ _ _ _ _ (0, 0) HB3.out.r1
      have c1_2 : w3.cell? ⟨w.heap.size, 2, none⟩ = some (.int .i64 0) := cell_of_row _ _ _ _ _ (0, 0) HB3.out.r1
      have c1_3 : w3.cell? ⟨w.heap.size, 3, none⟩ = some (.int .i64 0) := cell_of_row _ _ _ _ _ (0, 0) HB3.out.r1
      have c1_4 : w3.cell? ⟨w.heap.size, 4, none⟩ = some (.int .i64 st) := cell_of_row _ _ _ _ _ (0, 0) HB3.out.r1
      have c1_5 : w3.cell? ⟨w.heap.size, 5, none⟩ = some (.int .i64 0) := cell_of_row _ _ _ _ _ (0, 0) HB3.out.r1
      have c1_6 : w3.cell? ⟨w.heap.size, 6, none⟩ = some (.int .i64 0) := cell_of_row _ _ _ _ _ (0, 0) HB3.out.r1
      have c1_7 : w3.cell? ⟨w.heap.size, 7, none⟩ = some (.int .i64 0) := cell_of_row _ _ _ _ _ (0, 0) HB3.out.r1
      have c1_8 : w3.cell? ⟨w.heap.size, 8, none⟩ = some (.int .i64 0) := cell_of_row _ _ _ _ _ (0, 0) HB3.out.r1
      go_wp2_with (with_reducible show wpList _ _ _ (Oper.mk _ (.store 23 _ _) _ _ _ _ :: _) _ _; refine Hid.out ?_)
      refine Lib.hid ?_
      have l4_0 : gs < w3.heap.size := (Array.getElem?_eq_some_iff.1 HB3.out.r0).1
      have l4_1 : w.heap.size < w3.heap.size := (Array.getElem?_eq_some_iff.1 HB3.out.r1).1
      have lw4 : w.heap.size ≤ w3.heap.size := HB3.out.below.size
      refine wpList_put rfl 23 _ _ rfl w3.heap.size #[.int .i64 0, .int .i64 0, .int .i64 0] _ 23 rfl rfl (heap_alloc_new w3 _) (by kernel_rfl) rfl (by kernel_rfl) ?_
      intro w4 hr4 hg4
      have HB4 : Hid (Bx w [(w3.heap.size, .cells #[.int .i64 0, .int .i64 0, .int .i64 0] 23 (0, 0)), (gs, .cells #[.int .i64 0, .int .i64 (j : Int), .int .i64 0] 23 (0, 0)), (w.heap.size, .cells #[.int .i64 0, .int .i64 0, .int .i64 0, .int .i64 0, .int .i64 st, .int .i64 0, .int .i64 0, .int .i64 0, .int .i64 0] 27 (0, 0))] w4) := Lib.hid ((HB3.out.make (heap_alloc_new w3 (.cells #[.int .i64 0, .int .i64 0, .int .i64 0] 23)) ((Below.refl w3.heap.size w3).alloc (Nat.le_refl _) _)).put HB3.out.below.size hg4.out hr4.out (by simp only [List.mem_cons, List.not_mem_nil, or_false]; rintro p (rfl | rfl | rfl) <;> simp <;> omega))
      clear c0_0 c0_1 c0_2 c1_0 c1_1 c1_2 c1_3 c1_4 c1_5 c1_6 c1_7 c1_8 hr4 hg4 HB3
      generalize w3.heap.size = gt at *
      have c0_0 : w4.cell? ⟨gt, 0, none⟩ = some (.int .i64 0) := cell_of_row _ _ _ _ _ (0, 0) HB4.out.r0
      have c0_1 : w4.cell? ⟨gt, 1, none⟩ = some (.int .i64 0) := cell_of_row _ _ _ _ _ (0, 0) HB4.out.r0
      have c0_2 : w4.cell? ⟨gt, 2, none⟩ = some (.int .i64 0) := cell_of_row _ _ _ _ _ (0, 0) HB4.out.r0
      have c1_0 : w4.cell? ⟨gs, 0, none⟩ = some (.int .i64 0) := cell_of_row _ _ _ _ _ (0, 0) HB4.out.r1
      have c1_1 : w4.cell? ⟨gs, 1, none⟩ = some (.int .i64 (j : Int)) := cell_of_row _ _ _ _ _ (0, 0) HB4.out.r1
      have c1_2 : w4.cell? ⟨gs, 2, none⟩ = some (.int .i64 0) := cell_of_row _ _ _ _ _ (0, 0) HB4.out.r1
      have c2_0 : w4.cell? ⟨w.heap.size, 0, none⟩ = some (.int .i64 0) := cell_of_row _ _ _ _ _ (0, 0) HB4.out.r2
      have c2_1 : w4.cell? ⟨w.heap.size, 1, none⟩ = some (.int .i64 0) := cell_of_row _ _ _ _ _ (0, 0) HB4.out.r2
      have c2_2 : w4.cell? ⟨w.heap.size, 2, none⟩ = some (.int .i64 0) := cell_of_row _ _ _ _ _ (0, 0) HB4.out.r2
      have c2_3 : w4.cell? ⟨w.heap.size, 3, none⟩ = some (.int .i64 0) := cell_of_row _ _ _ _ _ (0, 0) HB4.out.r2
      have c2_4 : w4.cell? ⟨w.heap.size, 4, none⟩ = some (.int .i64 st) := cell_of_row _ _ _ _ _ (0, 0) HB4.out.r2
      have c2_5 : w4.cell? ⟨w.heap.size, 5, none⟩ = some (.int .i64 0) := cell_of_row _ _ _ _ _ (0, 0) HB4.out.r2
      have c2_6 : w4.cell? ⟨w.heap.size, 6, none⟩ = some (.int .i64 0) := cell_of_row _ _ _ _ _ (0, 0) HB4.out.r2
      have c2_7 : w4.cell? ⟨w.heap.size, 7, none⟩ = some (.int .i64 0) := cell_of_row _ _ _ _ _ (0, 0) HB4.out.r2
      have c2_8 : w4.cell? ⟨w.heap.size, 8, none⟩ = some (.int .i64 0) := cell_of_row _ _ _ _ _ (0, 0) HB4.out.r2
      go_wp2_with fail
      refine (FN.out _ HB4.out.below).mono ?_
      rintro e w5 ⟨rfl, hb5⟩
      have HB5 := Lib.hid (HB4.out.next hb5)
      clear c0_0 c0_1 c0_2 c1_0 c1_1 c1_2 c2_0 c2_1 c2_2 c2_3 c2_4 c2_5 c2_6 c2_7 c2_8 hb5 HB4
      go_wp2_with fail
      go_ret
      exact ⟨rfl, HB5.out.below⟩
set_option maxRecDepth 100000 in
theorem lawMotionWaits_lifted (os : Os) (started : os.Started) (H : Type) (enc : TypeId × Value → H) :
    ReturnsInHanded {} Tryd.checked os 5 .any (fun w args => (Rows.motionWaitsSpec.pre enc Tryd.prog Tryd.f5 [] false w args ∧ laidMetH Tryd.prog laidAll w) ∧ sizedMet enc Tryd.prog Tryd.f5 (OpenSpec.ofChange Rows.motionWaitsSpec) false w args) (Rows.motionWaitsSpec.post enc Tryd.prog Tryd.f5 false true false false) := by
  refine returnsInHanded_of_change_and (C := Tryd.checked) (X := fun w _ => laidMetH Tryd.prog laidAll w) (fun _ _ _ hh h => h.of_heap hh) own started (by kernel_rfl) Tryd.func5
    (ChangeSpec.witness_shaped (enc := enc) (C := Tryd.checked) (os := os) (X := fun w _ => laidMetH Tryd.prog laidAll w) false (World.doorLaid Tryd.prog 14 os) #[.int .u8 0, .int .u8 0, .int .i64 0] 8 rfl (World.shaped_of_RefB (by kernel_rfl) (by kernel_rfl)) (by kernel_rfl) (by kernel_rfl) (by kernel_rfl) (door_met os _)) ?_
  intro W base args ds gs before hval0 hW _ _ hL _
  have hval : ∀ (j : Nat) t v, Tryd.f5.params[j]? = some t → args[j]? = some v → Value.okWide Tryd.prog W .any base t v := hval0
  have hW' := hW
  obtain ⟨p, q, hA0, hV, rfl, hfz, hnd⟩ := hW
  have hA : DataW.TrodAll enc Tryd.prog W 0 (fun _ => true) true Tryd.f5.params.toList args.toList ds p := hA0
  rw [Tryd.params5] at hA hval
  obtain ⟨v0, vs0, d0, ds0, p0, q0, hargs, rfl, rfl, h0, r0⟩ := trodAll_cons hA
  obtain ⟨v1, vs1, d1, ds1, p1, q1, rfl, rfl, rfl, h1, r1⟩ := trodAll_cons r0
  obtain ⟨v2, vs2, d2, ds2, p2, q2, rfl, rfl, rfl, h2, r2⟩ := trodAll_cons r1
  obtain ⟨rfl, rfl, rfl⟩ := trodAll_nil r2
  obtain rfl : args = #[v0, v1, v2] := by cases args; simp_all
  obtain ⟨rfl, rfl⟩ := trodVars_none hV
  obtain ⟨x0, rfl, rfl, rfl, g0⟩ := open_int Tryd.underlying5 (hval 0 5 v0 rfl rfl) h0
  obtain ⟨x1, rfl, rfl, rfl, g1⟩ := open_int Tryd.underlying5 (hval 1 5 v1 rfl rfl) h1
  obtain ⟨x2, rfl, rfl, rfl, g2⟩ := open_int Tryd.underlying3 (hval 2 3 v2 rfl rfl) h2
  clear hA0 hval0
  refine (lawMotionWaits_walk x0 x1 x2 W (tabs_of_laid hL) g0 g1 g2).mono fun e W' ⟨he, bel⟩ => ?_
  subst he
  exact ⟨_, rfl, _, _, _, [], _, [], hW', trodAll_mk1 (shut_bool Tryd.underlying4 _), (trodAll_cons_mk (shut_int Tryd.underlying5 g0) (trodAll_cons_mk (shut_int Tryd.underlying5 g1) (trodAll_cons_mk (shut_int Tryd.underlying3 g2) trodAll_mk0))), rfl, bel.frame _, fun h => by cases h⟩

theorem lawMotionWaits_over : Rows.motionWaitsRow.holds Tryd.pinned (OpenSpec.ofChange Rows.motionWaitsSpec) :=
  OpenClaim.holds_of_wide 5 Tryd.f5 rfl rfl rfl rfl rfl rfl rfl ⟨rfl, rfl, rfl, rfl, rfl⟩ rfl rfl rfl rfl rfl (by kernel_rfl) Tryd.func5 (by kernel_rfl)
    (of_decide_eq_true (by kernel_rfl)) (by unfold Func.isWrapper; first | (rw [if_pos (by decide +kernel)]; kernel_rfl) | (rw [if_neg (by decide +kernel)]; exact ⟨rfl, rfl⟩))
    (fun os started H enc _ => lawMotionWaits_lifted os started H enc)

theorem motionWaits_card : Rows.MotionWaitsCardSaid :=
  Claim7.holds_tied_plain_at .later [] _ _ _ _ lawMotionWaits_over (fun _ h => by cases h) (by kernel_rfl) (fun _ h => by cases h) motionWaits_row_tie rfl ⟨rfl, rfl⟩ (by kernel_rfl) rfl
    (fun f fn hf hfn => by
      obtain rfl : f = 5 := Option.some.inj ((show Tryd.prog.funcNamed "overlay/overlaylaw13.MotionWaits" = some 5 by kernel_rfl).symm.trans hf) |>.symm
      obtain rfl : fn = Tryd.f5 := (Option.some.inj (Tryd.func5.symm.trans hfn)).symm
      exact ⟨by kernel_rfl, fun j t ht => by
        rw [Tryd.params5] at ht
        have hm : t ∈ [5, 5, 3] := by simpa using Array.mem_of_getElem? ht
        have hall : ([5, 5, 3].all fun u => !Tryd.prog.wantsStandIn u) = true := by kernel_rfl
        exact (show Tryd.prog.wantsStandIn t = false by simpa using List.all_eq_true.1 hall t hm)⟩)
    (by kernel_rfl)
#print axioms motionWaits_card
end Go.Proofs.YtcbmpcnanknncaaDoor
