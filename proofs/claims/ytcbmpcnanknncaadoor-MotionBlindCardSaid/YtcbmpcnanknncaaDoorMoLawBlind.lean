/- The law MotionBlind: ticks without feedback count for the time of a step, but do not end it. No condition but the listed table. -/
import Derived.Test.YtcbmpcnanknncaaDoorMoSane
import Derived.Test.YtcbmpcnanknncaaDoorMoOpen
import Derived.Test.YtcbmpcnanknncaaDoorCards
import Derived.Test.YtcbmpcnanknncaaDoorTie
import Derived.SevenTiedAt
import Derived.Deep.CutRange
namespace Go.Proofs.YtcbmpcnanknncaaDoor
open Go.RowKit Go.ChangeShapes Go.WideShapes Go.ChangeAt

set_option maxRecDepth 100000 in
set_option maxHeartbeats 8000000 in
theorem lawMotionBlind_walk (x y z : Nat) (w : World) (hT : Tabs w) (hx : x < 256) (hy : y < 256) (hz : z < 256) :
    Calls Tryd.prog 6 #[.agg #[.int .u8 x, .int .u8 y, .int .u8 z]] w fun e w' => e = .returned (.bool true) ∧ Below w.heap.size w w' := by
  obtain ⟨st, hSe, hS⟩ : ∃ st : Int, (1 : Int) + (x : Int) % 20 = st ∧ (1 ≤ st ∧ st ≤ 20) := ⟨_, rfl, by omega⟩
  obtain ⟨q0, hQe, hQ⟩ : ∃ q0 : Int, (1 : Int) + (y : Int) % 2 = q0 ∧ (q0 = 1 ∨ q0 = 2) := ⟨_, rfl, by omega⟩
  obtain ⟨N, hNe, hN⟩ : ∃ N : Nat, (z : Int) % 40 = (N : Int) ∧ N < 40 := ⟨z % 40, rfl, by omega⟩
  have FN := Lib.hid (fun wx (hb : Below w.heap.size w wx) => sane13_any wx (hT.below hb))
  have eqz := eqlMo 0 0 0 0 0 0
  rw [Mo.same_self] at eqz
  have FB := Lib.hid (fun wx (hb : Below w.heap.size w wx) => mostep_to 9 0 0 0 4 true 0 false q0 q0 0 4 q0 false wx (hT.below hb) (by rw [show (⟨0, 0, 0⟩ : Mo) = Mo.zero from rfl, Mo.step_begin (by decide) (by decide) (by decide) hQ, if_neg (by omega)]))
  have FZ := Lib.hid (fun wx => moSkip_any 0 0 0 wx)
  rw [show Mo.skipF ⟨0, 0, 0⟩ = Mo.zero by decide] at FZ
  simp only [Mo.agg, Mo.zero] at FZ
  clear hT
  have HB0 := Lib.hid (bxs2 w (.cells #[.int .u8 x, .int .u8 y, .int .u8 z] 34) (.cells #[.int .i64 0, .int .i64 0, .int .i64 0, .int .i64 0, .int .i64 0, .int .i64 0, .int .i64 0, .int .i64 0, .int .i64 0] 27))
  go_enter Tryd.func6, Tryd.ntmps6
  go_wp2_with (with_reducible show wpList _ _ _ (Oper.mk _ (.store 27 _ _) _ _ _ _ :: _) _ _; refine Hid.out ?_)
  refine Lib.hid ?_
  refine wpList_put rfl 27 _ _ rfl (w.heap.size + 1) #[.int .i64 0, .int .i64 0, .int .i64 0, .int .i64 0, .int .i64 st, .int .i64 0, .int .i64 0, .int .i64 0, .int .i64 0] _ 27 rfl rfl HB0.out.r1 (by kernel_rfl) rfl (by kernel_rfl) ?_
  intro w1 hr1 hg1
  have HB1 : Hid (Bx w [(w.heap.size, .cells #[.int .u8 x, .int .u8 y, .int .u8 z] 34 (0, 0)), (w.heap.size + 1, .cells #[.int .i64 0, .int .i64 0, .int .i64 0, .int .i64 0, .int .i64 st, .int .i64 0, .int .i64 0, .int .i64 0, .int .i64 0] 27 (0, 0))] w1) := Lib.hid (HB0.out.put (by omega) hg1.out hr1.out (by simp only [List.mem_cons, List.not_mem_nil, or_false]; rintro p (rfl | rfl) <;> simp <;> omega))
  clear hr1 hg1 HB0
  have c0_0 : w1.cell? ⟨w.heap.size, 0, none⟩ = some (.int .u8 x) := cell_of_row _ _ _ _ _ (0, 0) HB1.out.r0
  have c0_1 : w1.cell? ⟨w.heap.size, 1, none⟩ = some (.int .u8 y) := cell_of_row _ _ _ _ _ (0, 0) HB1.out.r0
  have c0_2 : w1.cell? ⟨w.heap.size, 2, none⟩ = some (.int .u8 z) := cell_of_row _ _ _ _ _ (0, 0) HB1.out.r0
  have c1_0 : w1.cell? ⟨w.heap.size + 1, 0, none⟩ = some (.int .i64 0) := cell_of_row _ _ _ _ _ (0, 0) HB1.out.r1
  have c1_1 : w1.cell? ⟨w.heap.size + 1, 1, none⟩ = some (.int .i64 0) := cell_of_row _ _ _ _ _ (0, 0) HB1.out.r1
  have c1_2 : w1.cell? ⟨w.heap.size + 1, 2, none⟩ = some (.int .i64 0) := cell_of_row _ _ _ _ _ (0, 0) HB1.out.r1
  have c1_3 : w1.cell? ⟨w.heap.size + 1, 3, none⟩ = some (.int .i64 0) := cell_of_row _ _ _ _ _ (0, 0) HB1.out.r1
  have c1_4 : w1.cell? ⟨w.heap.size + 1, 4, none⟩ = some (.int .i64 st) := cell_of_row _ _ _ _ _ (0, 0) HB1.out.r1
  have c1_5 : w1.cell? ⟨w.heap.size + 1, 5, none⟩ = some (.int .i64 0) := cell_of_row _ _ _ _ _ (0, 0) HB1.out.r1
  have c1_6 : w1.cell? ⟨w.heap.size + 1, 6, none⟩ = some (.int .i64 0) := cell_of_row _ _ _ _ _ (0, 0) HB1.out.r1
  have c1_7 : w1.cell? ⟨w.heap.size + 1, 7, none⟩ = some (.int .i64 0) := cell_of_row _ _ _ _ _ (0, 0) HB1.out.r1
  have c1_8 : w1.cell? ⟨w.heap.size + 1, 8, none⟩ = some (.int .i64 0) := cell_of_row _ _ _ _ _ (0, 0) HB1.out.r1
  go_wp2_with fail
  refine (FB.out _ HB1.out.below).mono ?_
  rintro e w2 ⟨rfl, hb2⟩
  have HB2 := Lib.hid (HB1.out.next hb2)
  clear c0_0 c0_1 c0_2 c1_0 c1_1 c1_2 c1_3 c1_4 c1_5 c1_6 c1_7 c1_8 hb2 HB1
  have c0_0 : w2.cell? ⟨w.heap.size, 0, none⟩ = some (.int .u8 x) := cell_of_row _ _ _ _ _ (0, 0) HB2.out.r0
  have c0_1 : w2.cell? ⟨w.heap.size, 1, none⟩ = some (.int .u8 y) := cell_of_row _ _ _ _ _ (0, 0) HB2.out.r0
  have c0_2 : w2.cell? ⟨w.heap.size, 2, none⟩ = some (.int .u8 z) := cell_of_row _ _ _ _ _ (0, 0) HB2.out.r0
  have c1_0 : w2.cell? ⟨w.heap.size + 1, 0, none⟩ = some (.int .i64 0) := cell_of_row _ _ _ _ _ (0, 0) HB2.out.r1
  have c1_1 : w2.cell? ⟨w.heap.size + 1, 1, none⟩ = some (.int .i64 0) := cell_of_row _ _ _ _ _ (0, 0) HB2.out.r1
  have c1_2 : w2.cell? ⟨w.heap.size + 1, 2, none⟩ = some (.int .i64 0) := cell_of_row _ _ _ _ _ (0, 0) HB2.out.r1
  have c1_3 : w2.cell? ⟨w.heap.size + 1, 3, none⟩ = some (.int .i64 0) := cell_of_row _ _ _ _ _ (0, 0) HB2.out.r1
  have c1_4 : w2.cell? ⟨w.heap.size + 1, 4, none⟩ = some (.int .i64 st) := cell_of_row _ _ _ _ _ (0, 0) HB2.out.r1
  have c1_5 : w2.cell? ⟨w.heap.size + 1, 5, none⟩ = some (.int .i64 0) := cell_of_row _ _ _ _ _ (0, 0) HB2.out.r1
  have c1_6 : w2.cell? ⟨w.heap.size + 1, 6, none⟩ = some (.int .i64 0) := cell_of_row _ _ _ _ _ (0, 0) HB2.out.r1
  have c1_7 : w2.cell? ⟨w.heap.size + 1, 7, none⟩ = some (.int .i64 0) := cell_of_row _ _ _ _ _ (0, 0) HB2.out.r1
  have c1_8 : w2.cell? ⟨w.heap.size + 1, 8, none⟩ = some (.int .i64 0) := cell_of_row _ _ _ _ _ (0, 0) HB2.out.r1
  go_wp2_with (with_reducible show wpList _ _ _ (Oper.mk _ (.store 23 _ _) _ _ _ _ :: _) _ _; refine Hid.out ?_)
  refine Lib.hid ?_
  have l3_0 : w.heap.size < w2.heap.size := (Array.getElem?_eq_some_iff.1 HB2.out.r0).1
  have l3_1 : w.heap.size + 1 < w2.heap.size := (Array.getElem?_eq_some_iff.1 HB2.out.r1).1
  have lw3 : w.heap.size ≤ w2.heap.size := HB2.out.below.size
  refine wpList_put rfl 23 _ _ rfl w2.heap.size #[.int .i64 q0, .int .i64 0, .int .i64 4] _ 23 rfl rfl (heap_alloc_new w2 _) (by kernel_rfl) rfl (by kernel_rfl) ?_
  intro w3 hr3 hg3
  have HB3 : Hid (Bx w [(w2.heap.size, .cells #[.int .i64 q0, .int .i64 0, .int .i64 4] 23 (0, 0)), (w.heap.size, .cells #[.int .u8 x, .int .u8 y, .int .u8 z] 34 (0, 0)), (w.heap.size + 1, .cells #[.int .i64 0, .int .i64 0, .int .i64 0, .int .i64 0, .int .i64 st, .int .i64 0, .int .i64 0, .int .i64 0, .int .i64 0] 27 (0, 0))] w3) := Lib.hid ((HB2.out.make (heap_alloc_new w2 (.cells #[.int .i64 0, .int .i64 0, .int .i64 0] 23)) ((Below.refl w2.heap.size w2).alloc (Nat.le_refl _) _)).put HB2.out.below.size hg3.out hr3.out (by simp only [List.mem_cons, List.not_mem_nil, or_false]; rintro p (rfl | rfl | rfl) <;> simp <;> omega))
  clear c0_0 c0_1 c0_2 c1_0 c1_1 c1_2 c1_3 c1_4 c1_5 c1_6 c1_7 c1_8 hr3 hg3 HB2
  generalize w2.heap.size = gs at *
  go_wp2_with fail
  clear hSe hQe
  go_loopw [7] (fun vi wr => ∃ j : Nat, j ≤ N ∧ vi = .int .i64 ((j : Int) + 1) ∧ Bx w [(gs, .cells #[.int .i64 q0, .int .i64 (j : Int), .int .i64 4] 23 (0, 0)), (w.heap.size, .cells #[.int .u8 x, .int .u8 y, .int .u8 z] 34 (0, 0)), (w.heap.size + 1, .cells #[.int .i64 0, .int .i64 0, .int .i64 0, .int .i64 0, .int .i64 st, .int .i64 0, .int .i64 0, .int .i64 0, .int .i64 0] 27 (0, 0))] wr) (fun vi _ => 41 - (intOf vi).toNat)
  case atStart => exact ⟨0, Nat.zero_le _, rfl, HB3.out⟩
  case round =>
    obtain ⟨j, hj, rfl, hbr⟩ := hrel
    have HBR := Lib.hid hbr
    clear hbr HB3
    by_cases hlt : j < N
    · have hc : (j : Int) + 1 ≤ (N : Int) := by omega
      have hcB : decide ((j : Int) + 1 ≤ (N : Int)) = true := decide_eq_true hc
      have FS := Lib.hid (fun wx => moSkip_any q0 j 4 wx)
      rw [Mo.skip_on (by omega) (by omega)] at FS
      simp only [Mo.agg] at FS
      have FL := Lib.hid (fun wx => moLate_any 0 0 0 0 st 0 0 0 0 q0 (j + 1) 4 wx)
      rw [show Mo.late st ⟨q0, j + 1, 4⟩ = decide (st < (j : Int) + 1) from rfl] at FL
      obtain ⟨q, hq⟩ : ∃ q, decide (st < (j : Int) + 1) = q := ⟨_, rfl⟩
      rw [hq] at FL
      have hq2 : decide ((j : Int) + 1 > st) = q := hq
      have hqq : (q != q) = false := by cases q <;> rfl
      have hq0 : (q0 != q0) = false := by simp
      have hw : IntKind.i64.wrap ((j : Int) + 1 + 1) = ((j + 1 : Nat) : Int) + 1 := by rw [IntKind.wrap_i64]; omega
      have c0_0 : wr.cell? ⟨gs, 0, none⟩ = some (.int .i64 q0) := cell_of_row _ _ _ _ _ (0, 0) HBR.out.r0
      have c0_1 : wr.cell? ⟨gs, 1, none⟩ = some (.int .i64 (j : Int)) := cell_of_row _ _ _ _ _ (0, 0) HBR.out.r0
      have c0_2 : wr.cell? ⟨gs, 2, none⟩ = some (.int .i64 4) := cell_of_row _ _ _ _ _ (0, 0) HBR.out.r0
      have c1_0 : wr.cell? ⟨w.heap.size, 0, none⟩ = some (.int .u8 x) := cell_of_row _ _ _ _ _ (0, 0) HBR.out.r1
      have c1_1 : wr.cell? ⟨w.heap.size, 1, none⟩ = some (.int .u8 y) := cell_of_row _ _ _ _ _ (0, 0) HBR.out.r1
      have c1_2 : wr.cell? ⟨w.heap.size, 2, none⟩ = some (.int .u8 z) := cell_of_row _ _ _ _ _ (0, 0) HBR.out.r1
      have c2_0 : wr.cell? ⟨w.heap.size + 1, 0, none⟩ = some (.int .i64 0) := cell_of_row _ _ _ _ _ (0, 0) HBR.out.r2
      have c2_1 : wr.cell? ⟨w.heap.size + 1, 1, none⟩ = some (.int .i64 0) := cell_of_row _ _ _ _ _ (0, 0) HBR.out.r2
      have c2_2 : wr.cell? ⟨w.heap.size + 1, 2, none⟩ = some (.int .i64 0) := cell_of_row _ _ _ _ _ (0, 0) HBR.out.r2
      have c2_3 : wr.cell? ⟨w.heap.size + 1, 3, none⟩ = some (.int .i64 0) := cell_of_row _ _ _ _ _ (0, 0) HBR.out.r2
      have c2_4 : wr.cell? ⟨w.heap.size + 1, 4, none⟩ = some (.int .i64 st) := cell_of_row _ _ _ _ _ (0, 0) HBR.out.r2
      have c2_5 : wr.cell? ⟨w.heap.size + 1, 5, none⟩ = some (.int .i64 0) := cell_of_row _ _ _ _ _ (0, 0) HBR.out.r2
      have c2_6 : wr.cell? ⟨w.heap.size + 1, 6, none⟩ = some (.int .i64 0) := cell_of_row _ _ _ _ _ (0, 0) HBR.out.r2
      have c2_7 : wr.cell? ⟨w.heap.size + 1, 7, none⟩ = some (.int .i64 0) := cell_of_row _ _ _ _ _ (0, 0) HBR.out.r2
      have c2_8 : wr.cell? ⟨w.heap.size + 1, 8, none⟩ = some (.int .i64 0) := cell_of_row _ _ _ _ _ (0, 0) HBR.out.r2
      go_wp2_with fail
      refine (FS.out _).mono ?_
      rintro e w4 ⟨rfl, hb4⟩
      have HB4 := Lib.hid (HBR.out.next hb4)
      clear c0_0 c0_1 c0_2 c1_0 c1_1 c1_2 c2_0 c2_1 c2_2 c2_3 c2_4 c2_5 c2_6 c2_7 c2_8 hb4 HBR
      have c0_0 : w4.cell? ⟨gs, 0, none⟩ = some (.int .i64 q0) := cell_of_row _ _ _ _ _ (0, 0) HB4.out.r0
      have c0_1 : w4.cell? ⟨gs, 1, none⟩ = some (.int .i64 (j : Int)) := cell_of_row _ _ _ _ _ (0, 0) HB4.out.r0
      have c0_2 : w4.cell? ⟨gs, 2, none⟩ = some (.int .i64 4) := cell_of_row _ _ _ _ _ (0, 0) HB4.out.r0
      have c1_0 : w4.cell? ⟨w.heap.size, 0, none⟩ = some (.int .u8 x) := cell_of_row _ _ _ _ _ (0, 0) HB4.out.r1
      have c1_1 : w4.cell? ⟨w.heap.size, 1, none⟩ = some (.int .u8 y) := cell_of_row _ _ _ _ _ (0, 0) HB4.out.r1
      have c1_2 : w4.cell? ⟨w.heap.size, 2, none⟩ = some (.int .u8 z) := cell_of_row _ _ _ _ _ (0, 0) HB4.out.r1
      have c2_0 : w4.cell? ⟨w.heap.size + 1, 0, none⟩ = some (.int .i64 0) := cell_of_row _ _ _ _ _ (0, 0) HB4.out.r2
      have c2_1 : w4.cell? ⟨w.heap.size + 1, 1, none⟩ = some (.int .i64 0) := cell_of_row _ _ _ _ _ (0, 0) HB4.out.r2
      have c2_2 : w4.cell? ⟨w.heap.size + 1, 2, none⟩ = some (.int .i64 0) := cell_of_row _ _ _ _ _ (0, 0) HB4.out.r2
      have c2_3 : w4.cell? ⟨w.heap.size + 1, 3, none⟩ = some (.int .i64 0) := cell_of_row _ _ _ _ _ (0, 0) HB4.out.r2
      have c2_4 : w4.cell? ⟨w.heap.size + 1, 4, none⟩ = some (.int .i64 st) := cell_of_row _ _ _ _ _ (0, 0) HB4.out.r2
      have c2_5 : w4.cell? ⟨w.heap.size + 1, 5, none⟩ = some (.int .i64 0) := cell_of_row _ _ _ _ _ (0, 0) HB4.out.r2
      have c2_6 : w4.cell? ⟨w.heap.size + 1, 6, none⟩ = some (.int .i64 0) := cell_of_row _ _ _ _ _ (0, 0) HB4.out.r2
      have c2_7 : w4.cell? ⟨w.heap.size + 1, 7, none⟩ = some (.int .i64 0) := cell_of_row _ _ _ _ _ (0, 0) HB4.out.r2
      have c2_8 : w4.cell? ⟨w.heap.size + 1, 8, none⟩ = some (.int .i64 0) := cell_of_row _ _ _ _ _ (0, 0) HB4.out.r2
      go_wp2_with (with_reducible show wpList _ _ _ (Oper.mk _ (.store 23 _ _) _ _ _ _ :: _) _ _; refine Hid.out ?_)
      refine Lib.hid ?_
      have l5_0 : gs < w4.heap.size := (Array.getElem?_eq_some_iff.1 HB4.out.r0).1
      have l5_1 : w.heap.size < w4.heap.size := (Array.getElem?_eq_some_iff.1 HB4.out.r1).1
      have l5_2 : w.heap.size + 1 < w4.heap.size := (Array.getElem?_eq_some_iff.1 HB4.out.r2).1
      have lw5 : w.heap.size ≤ w4.heap.size := HB4.out.below.size
      refine wpList_put rfl 23 _ _ rfl w4.heap.size #[.int .i64 q0, .int .i64 ((j : Int) + 1), .int .i64 4] _ 23 rfl rfl (heap_alloc_new w4 _) (by kernel_rfl) rfl (by kernel_rfl) ?_
      intro w5 hr5 hg5
      have HB5 : Hid (Bx w [(w4.heap.size, .cells #[.int .i64 q0, .int .i64 ((j : Int) + 1), .int .i64 4] 23 (0, 0)), (gs, .cells #[.int .i64 q0, .int .i64 (j : Int), .int .i64 4] 23 (0, 0)), (w.heap.size, .cells #[.int .u8 x, .int .u8 y, .int .u8 z] 34 (0, 0)), (w.heap.size + 1, .cells #[.int .i64 0, .int .i64 0, .int .i64 0, .int .i64 0, .int .i64 st, .int .i64 0, .int .i64 0, .int .i64 0, .int .i64 0] 27 (0, 0))] w5) := Lib.hid ((HB4.out.make (heap_alloc_new w4 (.cells #[.int .i64 0, .int .i64 0, .int .i64 0] 23)) ((Below.refl w4.heap.size w4).alloc (Nat.le_refl _) _)).put HB4.out.below.size hg5.out hr5.out (by simp only [List.mem_cons, List.not_mem_nil, or_false]; rintro p (rfl | rfl | rfl | rfl) <;> simp <;> omega))
      clear c0_0 c0_1 c0_2 c1_0 c1_1 c1_2 c2_0 c2_1 c2_2 c2_3 c2_4 c2_5 c2_6 c2_7 c2_8 hr5 hg5 HB4
      generalize w4.heap.size = gt at *
      go_wp2_with fail
      refine Bag.region (fun wx => Below w5.heap.size w5 wx) (by kernel_rfl) (by kernel_rfl) (Below.refl _ _).drew ?_
      iterate 25 (first
          | (apply Bag.walk_yes (by rfl)
             (intro wx hx K hK
              have HXx := HB5.out.next hx
              have z0_0 : wx.cell? ⟨gt, 0, none⟩ = some (.int .i64 q0) := cell_of_row _ _ _ _ _ (0, 0) HXx.r0
              have z0_1 : wx.cell? ⟨gt, 1, none⟩ = some (.int .i64 ((j : Int) + 1)) := cell_of_row _ _ _ _ _ (0, 0) HXx.r0
              have z0_2 : wx.cell? ⟨gt, 2, none⟩ = some (.int .i64 4) := cell_of_row _ _ _ _ _ (0, 0) HXx.r0
              have z3_0 : wx.cell? ⟨w.heap.size + 1, 0, none⟩ = some (.int .i64 0) := cell_of_row _ _ _ _ _ (0, 0) HXx.r3
              have z3_1 : wx.cell? ⟨w.heap.size + 1, 1, none⟩ = some (.int .i64 0) := cell_of_row _ _ _ _ _ (0, 0) HXx.r3
              have z3_2 : wx.cell? ⟨w.heap.size + 1, 2, none⟩ = some (.int .i64 0) := cell_of_row _ _ _ _ _ (0, 0) HXx.r3
              have z3_3 : wx.cell? ⟨w.heap.size + 1, 3, none⟩ = some (.int .i64 0) := cell_of_row _ _ _ _ _ (0, 0) HXx.r3
              have z3_4 : wx.cell? ⟨w.heap.size + 1, 4, none⟩ = some (.int .i64 st) := cell_of_row _ _ _ _ _ (0, 0) HXx.r3
              have z3_5 : wx.cell? ⟨w.heap.size + 1, 5, none⟩ = some (.int .i64 0) := cell_of_row _ _ _ _ _ (0, 0) HXx.r3
              have z3_6 : wx.cell? ⟨w.heap.size + 1, 6, none⟩ = some (.int .i64 0) := cell_of_row _ _ _ _ _ (0, 0) HXx.r3
              have z3_7 : wx.cell? ⟨w.heap.size + 1, 7, none⟩ = some (.int .i64 0) := cell_of_row _ _ _ _ _ (0, 0) HXx.r3
              have z3_8 : wx.cell? ⟨w.heap.size + 1, 8, none⟩ = some (.int .i64 0) := cell_of_row _ _ _ _ _ (0, 0) HXx.r3
              first
                | (go_simp
                   first
                    | (go_at_call 10; (with_reducible refine (FL.out _).mono ?_); rintro e x1 ⟨rfl, hb⟩; exact hK _ (hx.trans (hb.mono hx.size)))
                    | (go_at_K; exact hK _ hx)))
             rfl)
          | (refine Bag.walk_no (by rfl) ?_; simp only [Act.put, List.setIfInBounds_toArray, List.set_cons_succ, List.set_cons_zero]))
      refine Bag.walk_nil (fun w6 hb6 => ?_)
      have HB6 := Lib.hid (HB5.out.next hb6)
      clear hb6 HB5
      have c0_0 : w6.cell? ⟨gt, 0, none⟩ = some (.int .i64 q0) := cell_of_row _ _ _ _ _ (0, 0) HB6.out.r0
      have c0_1 : w6.cell? ⟨gt, 1, none⟩ = some (.int .i64 ((j : Int) + 1)) := cell_of_row _ _ _ _ _ (0, 0) HB6.out.r0
      have c0_2 : w6.cell? ⟨gt, 2, none⟩ = some (.int .i64 4) := cell_of_row _ _ _ _ _ (0, 0) HB6.out.r0
      have c1_0 : w6.cell? ⟨gs, 0, none⟩ = some (.int .i64 q0) := cell_of_row _ _ _ _ _ (0, 0) HB6.out.r1
      have c1_1 : w6.cell? ⟨gs, 1, none⟩ = some (.int .i64 (j : Int)) := cell_of_row _ _ _ _ _ (0, 0) HB6.out.r1
      have c1_2 : w6.cell? ⟨gs, 2, none⟩ = some (.int .i64 4) := cell_of_row _ _ _ _ _ (0, 0) HB6.out.r1
      have c2_0 : w6.cell? ⟨w.heap.size, 0, none⟩ = some (.int .u8 x) := cell_of_row _ _ _ _ _ (0, 0) HB6.out.r2
      have c2_1 : w6.cell? ⟨w.heap.size, 1, none⟩ = some (.int .u8 y) := cell_of_row _ _ _ _ _ (0, 0) HB6.out.r2
      have c2_2 : w6.cell? ⟨w.heap.size, 2, none⟩ = some (.int .u8 z) := cell_of_row _ _ _ _ _ (0, 0) HB6.out.r2
      have c3_0 : w6.cell? ⟨w.heap.size + 1, 0, none⟩ = some (.int .i64 0) := cell_of_row _ _ _ _ _ (0, 0) HB6.out.r3
      have c3_1 : w6.cell? ⟨w.heap.size + 1, 1, none⟩ = some (.int .i64 0) := cell_of_row _ _ _ _ _ (0, 0) HB6.out.r3
      have c3_2 : w6.cell? ⟨w.heap.size + 1, 2, none⟩ = some (.int .i64 0) := cell_of_row _ _ _ _ _ (0, 0) HB6.out.r3
      have c3_3 : w6.cell? ⟨w.heap.size + 1, 3, none⟩ = some (.int .i64 0) := cell_of_row _ _ _ _ _ (0, 0) HB6.out.r3
      have c3_4 : w6.cell? ⟨w.heap.size + 1, 4, none⟩ = some (.int .i64 st) := cell_of_row _ _ _ _ _ (0, 0) HB6.out.r3
      have c3_5 : w6.cell? ⟨w.heap.size + 1, 5, none⟩ = some (.int .i64 0) := cell_of_row _ _ _ _ _ (0, 0) HB6.out.r3
      have c3_6 : w6.cell? ⟨w.heap.size + 1, 6, none⟩ = some (.int .i64 0) := cell_of_row _ _ _ _ _ (0, 0) HB6.out.r3
      have c3_7 : w6.cell? ⟨w.heap.size + 1, 7, none⟩ = some (.int .i64 0) := cell_of_row _ _ _ _ _ (0, 0) HB6.out.r3
      have c3_8 : w6.cell? ⟨w.heap.size + 1, 8, none⟩ = some (.int .i64 0) := cell_of_row _ _ _ _ _ (0, 0) HB6.out.r3
      go_wp2_with (with_reducible show wpList _ _ _ (Oper.mk _ (.store 23 _ _) _ _ _ _ :: _) _ _; refine Hid.out ?_)
      refine Lib.hid ?_
      refine wpList_put rfl 23 _ _ rfl (gs) #[.int .i64 q0, .int .i64 ((j : Int) + 1), .int .i64 4] _ 23 rfl rfl HB6.out.r1 (by kernel_rfl) rfl (by kernel_rfl) ?_
      intro w7 hr7 hg7
      have HB7 : Hid (Bx w [(gt, .cells #[.int .i64 q0, .int .i64 ((j : Int) + 1), .int .i64 4] 23 (0, 0)), (gs, .cells #[.int .i64 q0, .int .i64 ((j : Int) + 1), .int .i64 4] 23 (0, 0)), (w.heap.size, .cells #[.int .u8 x, .int .u8 y, .int .u8 z] 34 (0, 0)), (w.heap.size + 1, .cells #[.int .i64 0, .int .i64 0, .int .i64 0, .int .i64 0, .int .i64 st, .int .i64 0, .int .i64 0, .int .i64 0, .int .i64 0] 27 (0, 0))] w7) := Lib.hid (HB6.out.put (by omega) hg7.out hr7.out (by simp only [List.mem_cons, List.not_mem_nil, or_false]; rintro p (rfl | rfl | rfl | rfl) <;> simp <;> omega))
      clear c0_0 c0_1 c0_2 c1_0 c1_1 c1_2 c2_0 c2_1 c2_2 c3_0 c3_1 c3_2 c3_3 c3_4 c3_5 c3_6 c3_7 c3_8 hr7 hg7 HB6
      go_wp2_with fail
      go_roundw
      case rel => exact ⟨j + 1, by omega, by first | rfl | go_num, (HB7.out.less (by simp only [List.mem_cons, List.not_mem_nil, or_false]; rintro p (rfl | rfl | rfl) <;> simp))⟩
      case measure => simp [intOf]; omega
    · obtain rfl : j = N := by omega
      have hc : ¬ (j : Int) + 1 ≤ (j : Int) := by omega
      have c0_0 : wr.cell? ⟨gs, 0, none⟩ = some (.int .i64 q0) := cell_of_row _ _ _ _ _ (0, 0) HBR.out.r0
      have c0_1 : wr.cell? ⟨gs, 1, none⟩ = some (.int .i64 (j : Int)) := cell_of_row _ _ _ _ _ (0, 0) HBR.out.r0
      have c0_2 : wr.cell? ⟨gs, 2, none⟩ = some (.int .i64 4) := cell_of_row _ _ _ _ _ (0, 0) HBR.out.r0
      have c1_0 : wr.cell? ⟨w.heap.size, 0, none⟩ = some (.int .u8 x) := cell_of_row _ _ _ _ _ (0, 0) HBR.out.r1
      have c1_1 : wr.cell? ⟨w.heap.size, 1, none⟩ = some (.int .u8 y) := cell_of_row _ _ _ _ _ (0, 0) HBR.out.r1
      have c1_2 : wr.cell? ⟨w.heap.size, 2, none⟩ = some (.int .u8 z) := cell_of_row _ _ _ _ _ (0, 0) HBR.out.r1
      have c2_0 : wr.cell? ⟨w.heap.size + 1, 0, none⟩ = some (.int .i64 0) := cell_of_row _ _ _ _ _ (0, 0) HBR.out.r2
      have c2_1 : wr.cell? ⟨w.heap.size + 1, 1, none⟩ = some (.int .i64 0) := cell_of_row _ _ _ _ _ (0, 0) HBR.out.r2
      have c2_2 : wr.cell? ⟨w.heap.size + 1, 2, none⟩ = some (.int .i64 0) := cell_of_row _ _ _ _ _ (0, 0) HBR.out.r2
      have c2_3 : wr.cell? ⟨w.heap.size + 1, 3, none⟩ = some (.int .i64 0) := cell_of_row _ _ _ _ _ (0, 0) HBR.out.r2
      have c2_4 : wr.cell? ⟨w.heap.size + 1, 4, none⟩ = some (.int .i64 st) := cell_of_row _ _ _ _ _ (0, 0) HBR.out.r2
      have c2_5 : wr.cell? ⟨w.heap.size + 1, 5, none⟩ = some (.int .i64 0) := cell_of_row _ _ _ _ _ (0, 0) HBR.out.r2
      have c2_6 : wr.cell? ⟨w.heap.size + 1, 6, none⟩ = some (.int .i64 0) := cell_of_row _ _ _ _ _ (0, 0) HBR.out.r2
      have c2_7 : wr.cell? ⟨w.heap.size + 1, 7, none⟩ = some (.int .i64 0) := cell_of_row _ _ _ _ _ (0, 0) HBR.out.r2
      have c2_8 : wr.cell? ⟨w.heap.size + 1, 8, none⟩ = some (.int .i64 0) := cell_of_row _ _ _ _ _ (0, 0) HBR.out.r2
      go_wp2_with fail
      refine (FZ.out _).mono ?_
      rintro e w4 ⟨rfl, hb4⟩
      have HB4 := Lib.hid (HBR.out.next hb4)
      clear c0_0 c0_1 c0_2 c1_0 c1_1 c1_2 c2_0 c2_1 c2_2 c2_3 c2_4 c2_5 c2_6 c2_7 c2_8 hb4 HBR
      have c0_0 : w4.cell? ⟨gs, 0, none⟩ = some (.int .i64 q0) := cell_of_row _ _ _ _ _ (0, 0) HB4.out.r0
      have c0_1 : w4.cell? ⟨gs, 1, none⟩ = some (.int .i64 (j : Int)) := cell_of_row _ _ _ _ _ (0, 0) HB4.out.r0
      have c0_2 : w4.cell? ⟨gs, 2, none⟩ = some (.int .i64 4) := cell_of_row _ _ _ _ _ (0, 0) HB4.out.r0
      have c1_0 : w4.cell? ⟨w.heap.size, 0, none⟩ = some (.int .u8 x) := cell_of_row _ _ _ _ _ (0, 0) HB4.out.r1
      have c1_1 : w4.cell? ⟨w.heap.size, 1, none⟩ = some (.int .u8 y) := cell_of_row _ _ _ _ _ (0, 0) HB4.out.r1
      have c1_2 : w4.cell? ⟨w.heap.size, 2, none⟩ = some (.int .u8 z) := cell_of_row _ _ _ _ _ (0, 0) HB4.out.r1
      have c2_0 : w4.cell? ⟨w.heap.size + 1, 0, none⟩ = some (.int .i64 0) := cell_of_row _ _ _ _ _ (0, 0) HB4.out.r2
      have c2_1 : w4.cell? ⟨w.heap.size + 1, 1, none⟩ = some (.int .i64 0) := cell_of_row _ _ _ _ _ (0, 0) HB4.out.r2
      have c2_2 : w4.cell? ⟨w.heap.size + 1, 2, none⟩ = some (.int .i64 0) := cell_of_row _ _ _ _ _ (0, 0) HB4.out.r2
      have c2_3 : w4.cell? ⟨w.heap.size + 1, 3, none⟩ = some (.int .i64 0) := cell_of_row _ _ _ _ _ (0, 0) HB4.out.r2
      have c2_4 : w4.cell? ⟨w.heap.size + 1, 4, none⟩ = some (.int .i64 st) := cell_of_row _ _ _ _ _ (0, 0) HB4.out.r2
      have c2_5 : w4.cell? ⟨w.heap.size + 1, 5, none⟩ = some (.int .i64 0) := cell_of_row _ _ _ _ _ (0, 0) HB4.out.r2
      have c2_6 : w4.cell? ⟨w.heap.size + 1, 6, none⟩ = some (.int .i64 0) := cell_of_row _ _ _ _ _ (0, 0) HB4.out.r2
      have c2_7 : w4.cell? ⟨w.heap.size + 1, 7, none⟩ = some (.int .i64 0) := cell_of_row _ _ _ _ _ (0, 0) HB4.out.r2
      have c2_8 : w4.cell? ⟨w.heap.size + 1, 8, none⟩ = some (.int .i64 0) := cell_of_row _ _ _ _ _ (0, 0) HB4.out.r2
      go_wp2_with fail
      refine (FN.out _ HB4.out.below).mono ?_
      rintro e w5 ⟨rfl, hb5⟩
      have HB5 := Lib.hid (HB4.out.next hb5)
      clear c0_0 c0_1 c0_2 c1_0 c1_1 c1_2 c2_0 c2_1 c2_2 c2_3 c2_4 c2_5 c2_6 c2_7 c2_8 hb5 HB4
      go_wp2_with fail
      go_ret
      exact ⟨rfl, HB5.out.below⟩
set_option maxRecDepth 100000 in
theorem lawMotionBlind_lifted (os : Os) (started : os.Started) (H : Type) (enc : TypeId × Value → H) :
    ReturnsInHanded {} Tryd.checked os 6 .any (fun w args => (Rows.motionBlindSpec.pre enc Tryd.prog Tryd.f6 [] false w args ∧ laidMetH Tryd.prog laidAll w) ∧ sizedMet enc Tryd.prog Tryd.f6 (OpenSpec.ofChange Rows.motionBlindSpec) false w args) (Rows.motionBlindSpec.post enc Tryd.prog Tryd.f6 false true false false) := by
  refine returnsInHanded_of_change_and (C := Tryd.checked) (X := fun w _ => laidMetH Tryd.prog laidAll w) (fun _ _ _ hh h => h.of_heap hh) own started (by kernel_rfl) Tryd.func6
    (ChangeSpec.witness_shaped (enc := enc) (C := Tryd.checked) (os := os) (X := fun w _ => laidMetH Tryd.prog laidAll w) false (World.doorLaid Tryd.prog 14 os) #[.agg #[.int .u8 0, .int .u8 0, .int .u8 0]] 8 rfl (World.shaped_of_RefB (by kernel_rfl) (by kernel_rfl)) (by kernel_rfl) (by kernel_rfl) (by kernel_rfl) (door_met os _)) ?_
  intro W base args ds gs before hval0 hW _ _ hL _
  have hval : ∀ (j : Nat) t v, Tryd.f6.params[j]? = some t → args[j]? = some v → Value.okWide Tryd.prog W .any base t v := hval0
  have hW' := hW
  obtain ⟨p, q, hA0, hV, rfl, hfz, hnd⟩ := hW
  have hA : DataW.TrodAll enc Tryd.prog W 0 (fun _ => true) true Tryd.f6.params.toList args.toList ds p := hA0
  rw [Tryd.params6] at hA hval
  obtain ⟨v0, vs0, d0, ds0, p0, q0, hargs, rfl, rfl, h0, r0⟩ := trodAll_cons hA
  obtain ⟨rfl, rfl, rfl⟩ := trodAll_nil r0
  obtain rfl : args = #[v0] := by cases args; simp_all
  obtain ⟨rfl, rfl⟩ := trodVars_none hV
  have k0 := h0
  have lt0 : ∀ x ∈ p0, x.block < W.heap.size := by obtain ⟨m, hm⟩ := k0; exact DataW.trod_lt m _ _ _ hm
  obtain ⟨x0, y0, z0, rfl, g0, m0, n0⟩ := open_au8_3 (hval 0 34 v0 rfl rfl) h0
  clear hA0 hval0
  refine (lawMotionBlind_walk x0 y0 z0 W (tabs_of_laid hL) g0 m0 n0).mono fun e W' ⟨he, bel⟩ => ?_
  subst he
  exact ⟨_, rfl, _, _, _, [], _, [], hW', trodAll_mk1 (shut_bool Tryd.underlying4 _), (trodAll_cons_mk (Below.trod laidOut (by kernel_rfl) (of_decide_eq_true (by kernel_rfl)) k0 bel lt0) trodAll_mk0), rfl, bel.frame _, fun h => by cases h⟩

theorem lawMotionBlind_over : Rows.motionBlindRow.holds Tryd.pinned (OpenSpec.ofChange Rows.motionBlindSpec) :=
  OpenClaim.holds_of_wide 6 Tryd.f6 rfl rfl rfl rfl rfl rfl rfl ⟨rfl, rfl, rfl, rfl, rfl⟩ rfl rfl rfl rfl rfl (by kernel_rfl) Tryd.func6 (by kernel_rfl)
    (of_decide_eq_true (by kernel_rfl)) (by unfold Func.isWrapper; first | (rw [if_pos (by decide +kernel)]; kernel_rfl) | (rw [if_neg (by decide +kernel)]; exact ⟨rfl, rfl⟩))
    (fun os started H enc _ => lawMotionBlind_lifted os started H enc)

theorem motionBlind_card : Rows.MotionBlindCardSaid :=
  Claim7.holds_tied_plain_at .later [] _ _ _ _ lawMotionBlind_over (fun _ h => by cases h) (by kernel_rfl) (fun _ h => by cases h) motionBlind_row_tie rfl ⟨rfl, rfl⟩ (by kernel_rfl) rfl
    (fun f fn hf hfn => by
      obtain rfl : f = 6 := Option.some.inj ((show Tryd.prog.funcNamed "overlay/overlaylaw13.MotionBlind" = some 6 by kernel_rfl).symm.trans hf) |>.symm
      obtain rfl : fn = Tryd.f6 := (Option.some.inj (Tryd.func6.symm.trans hfn)).symm
      exact ⟨by kernel_rfl, fun j t ht => by
        rw [Tryd.params6] at ht
        have hm : t ∈ [34] := by simpa using Array.mem_of_getElem? ht
        have hall : ([34].all fun u => !Tryd.prog.wantsStandIn u) = true := by kernel_rfl
        exact (show Tryd.prog.wantsStandIn t = false by simpa using List.all_eq_true.1 hall t hm)⟩)
    (by kernel_rfl)
#print axioms motionBlind_card
end Go.Proofs.YtcbmpcnanknncaaDoor
