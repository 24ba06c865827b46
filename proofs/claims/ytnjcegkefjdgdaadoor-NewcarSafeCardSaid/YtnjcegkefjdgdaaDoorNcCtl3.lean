/- The control of a modernised car: whose turn it is. No statement of the seat is proved here. -/
import Derived.Test.YtnjcegkefjdgdaaDoorNcCtl2
namespace Go.Proofs.YtnjcegkefjdgdaaDoor
open Go.RowKit
set_option maxRecDepth 4000
set_option linter.unusedSimpArgs false

set_option maxHeartbeats 8000000 in
theorem control_c (b : BldD) (A : Option Addr) (cap : Nat) (k : Int) (x : Fb) (h : Cs) (s : Nc) (w : World) (hw : NcW b A w) (hg : NcG b k x h) (hs : NcS s) (hq1 : Nc.drB s = false) :
    Calls Tryd.prog 18 #[tickV b A cap k x h, s.agg] w fun ee w' => ee = .returned (.tuple #[(Nc.control b k (Nc.carAt b k) x h s).1.agg, .int .i64 (Nc.control b k (Nc.carAt b k) x h s).2]) ∧ Below w.heap.size w w' := by
  have FD := Lib.hid (fun wx => doorRests_any s wx)
  have FY := Lib.hid (fun q (hq : q.ca < 4294967296) wx (hb : Below w.heap.size w wx) => cycle_any' b A cap k x h q wx (hw.below hb) hg hq)
  unfold Nc.control
  rw [if_pos hq1]
  rw [hq1] at FD
  have FY := Lib.hid (FY.out s hs.ca)
  generalize Nc.cycle (Nc.carAt b k) x s = t at *
  obtain ⟨⟨ua, ub, ⟨u1, u2, u3, u4, u5⟩, ⟨v1, v2, v3⟩, uc, us, ui, uf⟩, um⟩ := t
  clear hw hg hs hq1
  obtain ⟨f, d, r, pk, e1, e2, e3, cs⟩ := b
  obtain ⟨fl, lv, dd, bl⟩ := x
  obtain ⟨hu, hd⟩ := h
  obtain ⟨sd, so, ⟨d1, d2, d3, d4, d5⟩, ⟨m1, m2, m3⟩, ca, sh, il, fa⟩ := s
  simp only [tickV, Nc.agg, BldD.agg, Fb.agg, Dr.agg, Mo.agg, Cs.agg] at *
  have HB0 := Lib.hid (bxs3 w (.cells #[.int .i64 f, .int .i64 d, .int .i64 r, .int .i64 pk, .float .f64 e1, .float .f64 e2, .float .f64 e3, .slice A cs.length cap, .int .i64 k, .int .i64 fl, .bool lv, .int .i64 dd, .bool bl, .int .u32 hu, .int .u32 hd] 67) (.cells #[.int .i64 sd, .int .i64 so, .int .i64 d1, .int .i64 d2, .int .i64 d3, .bool d4, .int .i64 d5, .int .i64 m1, .int .i64 m2, .int .i64 m3, .int .u32 ca, .int .i64 sh, .int .i64 il, .bool fa] 38) (.cells #[.int .i64 0, .int .i64 0, .int .i64 0, .int .i64 0, .int .i64 0, .bool false, .int .i64 0, .int .i64 0, .int .i64 0, .int .i64 0, .int .u32 0, .int .i64 0, .int .i64 0, .bool false] 38))
  go_enter Tryd.func18, Tryd.ntmps18
  go_wp2_with fail
  refine (FD.out _).mono ?_
  rintro e w1 ⟨rfl, hb1⟩
  have HB1 := Lib.hid (HB0.out.next hb1)
  clear hb1 HB0
  obtain ⟨c0_0, c0_1, c0_2, c0_3, c0_4, c0_5, c0_6, c0_7, c0_8, c0_9, c0_10, c0_11, c0_12, c0_13, c0_14⟩ := row15 (b := w.heap.size) HB1.out.r0
  obtain ⟨c1_0, c1_1, c1_2, c1_3, c1_4, c1_5, c1_6, c1_7, c1_8, c1_9, c1_10, c1_11, c1_12, c1_13⟩ := row14 (b := w.heap.size + 1) HB1.out.r1
  go_wp2_with fail
  refine (FY.out _ HB1.out.below).mono ?_
  rintro e w2 ⟨rfl, hb2⟩
  have HB2 := Lib.hid (HB1.out.next hb2)
  clear c0_0 c0_1 c0_2 c0_3 c0_4 c0_5 c0_6 c0_7 c0_8 c0_9 c0_10 c0_11 c0_12 c0_13 c0_14 c1_0 c1_1 c1_2 c1_3 c1_4 c1_5 c1_6 c1_7 c1_8 c1_9 c1_10 c1_11 c1_12 c1_13 hb2 HB1
  obtain ⟨c0_0, c0_1, c0_2, c0_3, c0_4, c0_5, c0_6, c0_7, c0_8, c0_9, c0_10, c0_11, c0_12, c0_13, c0_14⟩ := row15 (b := w.heap.size) HB2.out.r0
  obtain ⟨c1_0, c1_1, c1_2, c1_3, c1_4, c1_5, c1_6, c1_7, c1_8, c1_9, c1_10, c1_11, c1_12, c1_13⟩ := row14 (b := w.heap.size + 1) HB2.out.r1
  go_wp2_with (with_reducible show wpList _ _ _ (Oper.mk _ (.store 38 _ _) _ _ _ _ :: _) _ _; refine Hid.out ?_)
  refine Lib.hid ?_
  refine wpList_put rfl 38 _ _ rfl (w.heap.size + 2) #[.int .i64 ua, .int .i64 ub, .int .i64 u1, .int .i64 u2, .int .i64 u3, .bool u4, .int .i64 u5, .int .i64 v1, .int .i64 v2, .int .i64 v3, .int .u32 (uc : Nat), .int .i64 us, .int .i64 ui, .bool uf] _ 38 rfl rfl HB2.out.r2 (by kernel_rfl) rfl (by kernel_rfl) ?_
  intro w3 hr3 hg3
  have HB3 : Hid (Bx w [(w.heap.size, .cells #[.int .i64 f, .int .i64 d, .int .i64 r, .int .i64 pk, .float .f64 e1, .float .f64 e2, .float .f64 e3, .slice A cs.length cap, .int .i64 k, .int .i64 fl, .bool lv, .int .i64 dd, .bool bl, .int .u32 hu, .int .u32 hd] 67 (0, 0)), (w.heap.size + 1, .cells #[.int .i64 sd, .int .i64 so, .int .i64 d1, .int .i64 d2, .int .i64 d3, .bool d4, .int .i64 d5, .int .i64 m1, .int .i64 m2, .int .i64 m3, .int .u32 ca, .int .i64 sh, .int .i64 il, .bool fa] 38 (0, 0)), (w.heap.size + 2, .cells #[.int .i64 ua, .int .i64 ub, .int .i64 u1, .int .i64 u2, .int .i64 u3, .bool u4, .int .i64 u5, .int .i64 v1, .int .i64 v2, .int .i64 v3, .int .u32 (uc : Nat), .int .i64 us, .int .i64 ui, .bool uf] 38 (0, 0))] w3) := Lib.hid (HB2.out.put (by omega) hg3.out hr3.out (by simp only [List.mem_cons, List.not_mem_nil, or_false]; rintro p (rfl | rfl | rfl) <;> simp <;> omega))
  clear c0_0 c0_1 c0_2 c0_3 c0_4 c0_5 c0_6 c0_7 c0_8 c0_9 c0_10 c0_11 c0_12 c0_13 c0_14 c1_0 c1_1 c1_2 c1_3 c1_4 c1_5 c1_6 c1_7 c1_8 c1_9 c1_10 c1_11 c1_12 c1_13 hr3 hg3 HB2
  go_wp2_with fail
  exact bodyPost_ret (results_row_tmp Tryd.results18 _ _ _ _ _ (0, 0) _ rfl HB3.out.r2 Tryd.underlying38 rfl (by kernel_rfl)) rfl (⟨rfl, HB3.out.below⟩)
set_option maxHeartbeats 8000000 in
theorem control_u (b : BldD) (A : Option Addr) (cap : Nat) (k : Int) (x : Fb) (h : Cs) (s : Nc) (w : World) (hw : NcW b A w) (hg : NcG b k x h) (hs : NcS s) (hq1 : Nc.drB s = true) (hq2 : Nc.moB (Nc.move b.floors x s 0).1 = false) :
    Calls Tryd.prog 18 #[tickV b A cap k x h, s.agg] w fun ee w' => ee = .returned (.tuple #[(Nc.control b k (Nc.carAt b k) x h s).1.agg, .int .i64 (Nc.control b k (Nc.carAt b k) x h s).2]) ∧ Below w.heap.size w w' := by
  have FD := Lib.hid (fun wx => doorRests_any s wx)
  have FY := Lib.hid (fun q (hq : q.ca < 4294967296) wx (hb : Below w.heap.size w wx) => cycle_any' b A cap k x h q wx (hw.below hb) hg hq)
  unfold Nc.control
  rw [if_neg (fun e => by rw [hq1] at e; cases e)]
  rw [hq1] at FD
  clear hq1
  have FM := Lib.hid (fun wx (hb : Below w.heap.size w wx) => ncMove_any b A cap k x h s 0 wx (hw.below hb))
  have FC := Lib.hid (fun q (hq : NcS q) wx (hb : Below w.heap.size w wx) => ncChoose_any b A cap k x h q wx (hw.below hb) hg hq)
  have hs2 : NcS (Nc.move b.floors x s 0).1 := ⟨hs.sd, hs.so, hs.ca, hs.il⟩
  clear hw hg hs
  generalize Nc.move b.floors x s 0 = t at *
  obtain ⟨t, um⟩ := t
  simp only at hs2 FM hq2 ⊢
  have FR := Lib.hid (fun wx => motionRests_any t wx)
  rw [if_pos hq2]
  rw [hq2] at FR
  have FU := Lib.hid (fun wx => underway_any t wx)
  generalize Nc.underway t = v at *
  obtain ⟨ya, yb, ⟨y1, y2, y3, y4, y5⟩, ⟨z1, z2, z3⟩, yc, ys, yi, yf⟩ := v
  clear FY FC hs2 hq2
  obtain ⟨f, d, r, pk, e1, e2, e3, cs⟩ := b
  obtain ⟨fl, lv, dd, bl⟩ := x
  obtain ⟨hu, hd⟩ := h
  obtain ⟨sd, so, ⟨d1, d2, d3, d4, d5⟩, ⟨m1, m2, m3⟩, ca, sh, il, fa⟩ := s
  obtain ⟨ua, ub, ⟨u1, u2, u3, u4, u5⟩, ⟨v1, v2, v3⟩, uc, us, ui, uf⟩ := t
  simp only [tickV, Nc.agg, BldD.agg, Fb.agg, Dr.agg, Mo.agg, Cs.agg] at *
  have HB0 := Lib.hid (bxs3 w (.cells #[.int .i64 f, .int .i64 d, .int .i64 r, .int .i64 pk, .float .f64 e1, .float .f64 e2, .float .f64 e3, .slice A cs.length cap, .int .i64 k, .int .i64 fl, .bool lv, .int .i64 dd, .bool bl, .int .u32 hu, .int .u32 hd] 67) (.cells #[.int .i64 sd, .int .i64 so, .int .i64 d1, .int .i64 d2, .int .i64 d3, .bool d4, .int .i64 d5, .int .i64 m1, .int .i64 m2, .int .i64 m3, .int .u32 ca, .int .i64 sh, .int .i64 il, .bool fa] 38) (.cells #[.int .i64 0, .int .i64 0, .int .i64 0, .int .i64 0, .int .i64 0, .bool false, .int .i64 0, .int .i64 0, .int .i64 0, .int .i64 0, .int .u32 0, .int .i64 0, .int .i64 0, .bool false] 38))
  go_enter Tryd.func18, Tryd.ntmps18
  go_wp2_with fail
  refine (FD.out _).mono ?_
  rintro e w1 ⟨rfl, hb1⟩
  have HB1 := Lib.hid (HB0.out.next hb1)
  clear hb1 HB0
  obtain ⟨c0_0, c0_1, c0_2, c0_3, c0_4, c0_5, c0_6, c0_7, c0_8, c0_9, c0_10, c0_11, c0_12, c0_13, c0_14⟩ := row15 (b := w.heap.size) HB1.out.r0
  obtain ⟨c1_0, c1_1, c1_2, c1_3, c1_4, c1_5, c1_6, c1_7, c1_8, c1_9, c1_10, c1_11, c1_12, c1_13⟩ := row14 (b := w.heap.size + 1) HB1.out.r1
  go_wp2_with fail
  refine (FM.out _ HB1.out.below).mono ?_
  rintro e w2 ⟨rfl, hb2⟩
  have HB2 := Lib.hid (HB1.out.next hb2)
  clear c0_0 c0_1 c0_2 c0_3 c0_4 c0_5 c0_6 c0_7 c0_8 c0_9 c0_10 c0_11 c0_12 c0_13 c0_14 c1_0 c1_1 c1_2 c1_3 c1_4 c1_5 c1_6 c1_7 c1_8 c1_9 c1_10 c1_11 c1_12 c1_13 hb2 HB1
  obtain ⟨c0_0, c0_1, c0_2, c0_3, c0_4, c0_5, c0_6, c0_7, c0_8, c0_9, c0_10, c0_11, c0_12, c0_13, c0_14⟩ := row15 (b := w.heap.size) HB2.out.r0
  obtain ⟨c1_0, c1_1, c1_2, c1_3, c1_4, c1_5, c1_6, c1_7, c1_8, c1_9, c1_10, c1_11, c1_12, c1_13⟩ := row14 (b := w.heap.size + 1) HB2.out.r1
  go_wp2_with (with_reducible show wpList _ _ _ (Oper.mk _ (.store 38 _ _) _ _ _ _ :: _) _ _; refine Hid.out ?_)
  refine Lib.hid ?_
  refine wpList_put rfl 38 _ _ rfl (w.heap.size + 1) #[.int .i64 ua, .int .i64 ub, .int .i64 u1, .int .i64 u2, .int .i64 u3, .bool u4, .int .i64 u5, .int .i64 v1, .int .i64 v2, .int .i64 v3, .int .u32 (uc : Nat), .int .i64 us, .int .i64 ui, .bool uf] _ 38 rfl rfl HB2.out.r1 (by kernel_rfl) rfl (by kernel_rfl) ?_
  intro w3 hr3 hg3
  have HB3 : Hid (Bx w [(w.heap.size, .cells #[.int .i64 f, .int .i64 d, .int .i64 r, .int .i64 pk, .float .f64 e1, .float .f64 e2, .float .f64 e3, .slice A cs.length cap, .int .i64 k, .int .i64 fl, .bool lv, .int .i64 dd, .bool bl, .int .u32 hu, .int .u32 hd] 67 (0, 0)), (w.heap.size + 1, .cells #[.int .i64 ua, .int .i64 ub, .int .i64 u1, .int .i64 u2, .int .i64 u3, .bool u4, .int .i64 u5, .int .i64 v1, .int .i64 v2, .int .i64 v3, .int .u32 (uc : Nat), .int .i64 us, .int .i64 ui, .bool uf] 38 (0, 0)), (w.heap.size + 2, .cells #[.int .i64 0, .int .i64 0, .int .i64 0, .int .i64 0, .int .i64 0, .bool false, .int .i64 0, .int .i64 0, .int .i64 0, .int .i64 0, .int .u32 0, .int .i64 0, .int .i64 0, .bool false] 38 (0, 0))] w3) := Lib.hid (HB2.out.put (by omega) hg3.out hr3.out (by simp only [List.mem_cons, List.not_mem_nil, or_false]; rintro p (rfl | rfl | rfl) <;> simp <;> omega))
  clear c0_0 c0_1 c0_2 c0_3 c0_4 c0_5 c0_6 c0_7 c0_8 c0_9 c0_10 c0_11 c0_12 c0_13 c0_14 c1_0 c1_1 c1_2 c1_3 c1_4 c1_5 c1_6 c1_7 c1_8 c1_9 c1_10 c1_11 c1_12 c1_13 hr3 hg3 HB2
  obtain ⟨c0_0, c0_1, c0_2, c0_3, c0_4, c0_5, c0_6, c0_7, c0_8, c0_9, c0_10, c0_11, c0_12, c0_13, c0_14⟩ := row15 (b := w.heap.size) HB3.out.r0
  obtain ⟨c1_0, c1_1, c1_2, c1_3, c1_4, c1_5, c1_6, c1_7, c1_8, c1_9, c1_10, c1_11, c1_12, c1_13⟩ := row14 (b := w.heap.size + 1) HB3.out.r1
  go_wp2_with fail
  refine (FR.out _).mono ?_
  rintro e w4 ⟨rfl, hb4⟩
  have HB4 := Lib.hid (HB3.out.next hb4)
  clear c0_0 c0_1 c0_2 c0_3 c0_4 c0_5 c0_6 c0_7 c0_8 c0_9 c0_10 c0_11 c0_12 c0_13 c0_14 c1_0 c1_1 c1_2 c1_3 c1_4 c1_5 c1_6 c1_7 c1_8 c1_9 c1_10 c1_11 c1_12 c1_13 hb4 HB3
  obtain ⟨c0_0, c0_1, c0_2, c0_3, c0_4, c0_5, c0_6, c0_7, c0_8, c0_9, c0_10, c0_11, c0_12, c0_13, c0_14⟩ := row15 (b := w.heap.size) HB4.out.r0
  obtain ⟨c1_0, c1_1, c1_2, c1_3, c1_4, c1_5, c1_6, c1_7, c1_8, c1_9, c1_10, c1_11, c1_12, c1_13⟩ := row14 (b := w.heap.size + 1) HB4.out.r1
  go_wp2_with fail
  refine (FU.out _).mono ?_
  rintro e w5 ⟨rfl, hb5⟩
  have HB5 := Lib.hid (HB4.out.next hb5)
  clear c0_0 c0_1 c0_2 c0_3 c0_4 c0_5 c0_6 c0_7 c0_8 c0_9 c0_10 c0_11 c0_12 c0_13 c0_14 c1_0 c1_1 c1_2 c1_3 c1_4 c1_5 c1_6 c1_7 c1_8 c1_9 c1_10 c1_11 c1_12 c1_13 hb5 HB4
  obtain ⟨c0_0, c0_1, c0_2, c0_3, c0_4, c0_5, c0_6, c0_7, c0_8, c0_9, c0_10, c0_11, c0_12, c0_13, c0_14⟩ := row15 (b := w.heap.size) HB5.out.r0
  obtain ⟨c1_0, c1_1, c1_2, c1_3, c1_4, c1_5, c1_6, c1_7, c1_8, c1_9, c1_10, c1_11, c1_12, c1_13⟩ := row14 (b := w.heap.size + 1) HB5.out.r1
  go_wp2_with (with_reducible show wpList _ _ _ (Oper.mk _ (.store 38 _ _) _ _ _ _ :: _) _ _; refine Hid.out ?_)
  refine Lib.hid ?_
  refine wpList_put rfl 38 _ _ rfl (w.heap.size + 2) #[.int .i64 ya, .int .i64 yb, .int .i64 y1, .int .i64 y2, .int .i64 y3, .bool y4, .int .i64 y5, .int .i64 z1, .int .i64 z2, .int .i64 z3, .int .u32 (yc : Nat), .int .i64 ys, .int .i64 yi, .bool yf] _ 38 rfl rfl HB5.out.r2 (by kernel_rfl) rfl (by kernel_rfl) ?_
  intro w6 hr6 hg6
  have HB6 : Hid (Bx w [(w.heap.size, .cells #[.int .i64 f, .int .i64 d, .int .i64 r, .int .i64 pk, .float .f64 e1, .float .f64 e2, .float .f64 e3, .slice A cs.length cap, .int .i64 k, .int .i64 fl, .bool lv, .int .i64 dd, .bool bl, .int .u32 hu, .int .u32 hd] 67 (0, 0)), (w.heap.size + 1, .cells #[.int .i64 ua, .int .i64 ub, .int .i64 u1, .int .i64 u2, .int .i64 u3, .bool u4, .int .i64 u5, .int .i64 v1, .int .i64 v2, .int .i64 v3, .int .u32 (uc : Nat), .int .i64 us, .int .i64 ui, .bool uf] 38 (0, 0)), (w.heap.size + 2, .cells #[.int .i64 ya, .int .i64 yb, .int .i64 y1, .int .i64 y2, .int .i64 y3, .bool y4, .int .i64 y5, .int .i64 z1, .int .i64 z2, .int .i64 z3, .int .u32 (yc : Nat), .int .i64 ys, .int .i64 yi, .bool yf] 38 (0, 0))] w6) := Lib.hid (HB5.out.put (by omega) hg6.out hr6.out (by simp only [List.mem_cons, List.not_mem_nil, or_false]; rintro p (rfl | rfl | rfl) <;> simp <;> omega))
  clear c0_0 c0_1 c0_2 c0_3 c0_4 c0_5 c0_6 c0_7 c0_8 c0_9 c0_10 c0_11 c0_12 c0_13 c0_14 c1_0 c1_1 c1_2 c1_3 c1_4 c1_5 c1_6 c1_7 c1_8 c1_9 c1_10 c1_11 c1_12 c1_13 hr6 hg6 HB5
  go_wp2_with fail
  exact bodyPost_ret (results_row_tmp Tryd.results18 _ _ _ _ _ (0, 0) _ rfl HB6.out.r2 Tryd.underlying38 rfl (by kernel_rfl)) rfl (⟨rfl, HB6.out.below⟩)
set_option maxHeartbeats 8000000 in
theorem control_d (b : BldD) (A : Option Addr) (cap : Nat) (k : Int) (x : Fb) (h : Cs) (s : Nc) (w : World) (hw : NcW b A w) (hg : NcG b k x h) (hs : NcS s) (hq1 : Nc.drB s = true) (hq2 : Nc.moB (Nc.move b.floors x s 0).1 = true) (hdd : x.dd = 2) :
    Calls Tryd.prog 18 #[tickV b A cap k x h, s.agg] w fun ee w' => ee = .returned (.tuple #[(Nc.control b k (Nc.carAt b k) x h s).1.agg, .int .i64 (Nc.control b k (Nc.carAt b k) x h s).2]) ∧ Below w.heap.size w w' := by
  have FD := Lib.hid (fun wx => doorRests_any s wx)
  have FY := Lib.hid (fun q (hq : q.ca < 4294967296) wx (hb : Below w.heap.size w wx) => cycle_any' b A cap k x h q wx (hw.below hb) hg hq)
  unfold Nc.control
  rw [if_neg (fun e => by rw [hq1] at e; cases e)]
  rw [hq1] at FD
  clear hq1
  have FM := Lib.hid (fun wx (hb : Below w.heap.size w wx) => ncMove_any b A cap k x h s 0 wx (hw.below hb))
  have FC := Lib.hid (fun q (hq : NcS q) wx (hb : Below w.heap.size w wx) => ncChoose_any b A cap k x h q wx (hw.below hb) hg hq)
  have hs2 : NcS (Nc.move b.floors x s 0).1 := ⟨hs.sd, hs.so, hs.ca, hs.il⟩
  clear hw hg hs
  generalize Nc.move b.floors x s 0 = t at *
  obtain ⟨t, um⟩ := t
  simp only at hs2 FM hq2 ⊢
  have FR := Lib.hid (fun wx => motionRests_any t wx)
  rw [if_neg (fun e => by rw [hq2] at e; cases e)]
  rw [hq2] at FR
  clear hq2
  rw [if_neg (by simpa using hdd)]
  have FC := Lib.hid (FC.out t hs2)
  generalize Nc.choose b k (Nc.carAt b k) x h t = v at *
  obtain ⟨⟨ya, yb, ⟨y1, y2, y3, y4, y5⟩, ⟨z1, z2, z3⟩, yc, ys, yi, yf⟩, ym⟩ := v
  clear FY hs2
  obtain ⟨f, d, r, pk, e1, e2, e3, cs⟩ := b
  obtain ⟨fl, lv, dd, bl⟩ := x
  obtain ⟨hu, hd⟩ := h
  obtain ⟨sd, so, ⟨d1, d2, d3, d4, d5⟩, ⟨m1, m2, m3⟩, ca, sh, il, fa⟩ := s
  obtain ⟨ua, ub, ⟨u1, u2, u3, u4, u5⟩, ⟨v1, v2, v3⟩, uc, us, ui, uf⟩ := t
  simp only at hdd
  subst hdd
  simp only [tickV, Nc.agg, BldD.agg, Fb.agg, Dr.agg, Mo.agg, Cs.agg] at *
  have HB0 := Lib.hid (bxs3 w (.cells #[.int .i64 f, .int .i64 d, .int .i64 r, .int .i64 pk, .float .f64 e1, .float .f64 e2, .float .f64 e3, .slice A cs.length cap, .int .i64 k, .int .i64 fl, .bool lv, .int .i64 2, .bool bl, .int .u32 hu, .int .u32 hd] 67) (.cells #[.int .i64 sd, .int .i64 so, .int .i64 d1, .int .i64 d2, .int .i64 d3, .bool d4, .int .i64 d5, .int .i64 m1, .int .i64 m2, .int .i64 m3, .int .u32 ca, .int .i64 sh, .int .i64 il, .bool fa] 38) (.cells #[.int .i64 0, .int .i64 0, .int .i64 0, .int .i64 0, .int .i64 0, .bool false, .int .i64 0, .int .i64 0, .int .i64 0, .int .i64 0, .int .u32 0, .int .i64 0, .int .i64 0, .bool false] 38))
  go_enter Tryd.func18, Tryd.ntmps18
  go_wp2_with fail
  refine (FD.out _).mono ?_
  rintro e w1 ⟨rfl, hb1⟩
  have HB1 := Lib.hid (HB0.out.next hb1)
  clear hb1 HB0
  obtain ⟨c0_0, c0_1, c0_2, c0_3, c0_4, c0_5, c0_6, c0_7, c0_8, c0_9, c0_10, c0_11, c0_12, c0_13, c0_14⟩ := row15 (b := w.heap.size) HB1.out.r0
  obtain ⟨c1_0, c1_1, c1_2, c1_3, c1_4, c1_5, c1_6, c1_7, c1_8, c1_9, c1_10, c1_11, c1_12, c1_13⟩ := row14 (b := w.heap.size + 1) HB1.out.r1
  go_wp2_with fail
  refine (FM.out _ HB1.out.below).mono ?_
  rintro e w2 ⟨rfl, hb2⟩
  have HB2 := Lib.hid (HB1.out.next hb2)
  clear c0_0 c0_1 c0_2 c0_3 c0_4 c0_5 c0_6 c0_7 c0_8 c0_9 c0_10 c0_11 c0_12 c0_13 c0_14 c1_0 c1_1 c1_2 c1_3 c1_4 c1_5 c1_6 c1_7 c1_8 c1_9 c1_10 c1_11 c1_12 c1_13 hb2 HB1
  obtain ⟨c0_0, c0_1, c0_2, c0_3, c0_4, c0_5, c0_6, c0_7, c0_8, c0_9, c0_10, c0_11, c0_12, c0_13, c0_14⟩ := row15 (b := w.heap.size) HB2.out.r0
  obtain ⟨c1_0, c1_1, c1_2, c1_3, c1_4, c1_5, c1_6, c1_7, c1_8, c1_9, c1_10, c1_11, c1_12, c1_13⟩ := row14 (b := w.heap.size + 1) HB2.out.r1
  go_wp2_with (with_reducible show wpList _ _ _ (Oper.mk _ (.store 38 _ _) _ _ _ _ :: _) _ _; refine Hid.out ?_)
  refine Lib.hid ?_
  refine wpList_put rfl 38 _ _ rfl (w.heap.size + 1) #[.int .i64 ua, .int .i64 ub, .int .i64 u1, .int .i64 u2, .int .i64 u3, .bool u4, .int .i64 u5, .int .i64 v1, .int .i64 v2, .int .i64 v3, .int .u32 (uc : Nat), .int .i64 us, .int .i64 ui, .bool uf] _ 38 rfl rfl HB2.out.r1 (by kernel_rfl) rfl (by kernel_rfl) ?_
  intro w3 hr3 hg3
  have HB3 : Hid (Bx w [(w.heap.size, .cells #[.int .i64 f, .int .i64 d, .int .i64 r, .int .i64 pk, .float .f64 e1, .float .f64 e2, .float .f64 e3, .slice A cs.length cap, .int .i64 k, .int .i64 fl, .bool lv, .int .i64 2, .bool bl, .int .u32 hu, .int .u32 hd] 67 (0, 0)), (w.heap.size + 1, .cells #[.int .i64 ua, .int .i64 ub, .int .i64 u1, .int .i64 u2, .int .i64 u3, .bool u4, .int .i64 u5, .int .i64 v1, .int .i64 v2, .int .i64 v3, .int .u32 (uc : Nat), .int .i64 us, .int .i64 ui, .bool uf] 38 (0, 0)), (w.heap.size + 2, .cells #[.int .i64 0, .int .i64 0, .int .i64 0, .int .i64 0, .int .i64 0, .bool false, .int .i64 0, .int .i64 0, .int .i64 0, .int .i64 0, .int .u32 0, .int .i64 0, .int .i64 0, .bool false] 38 (0, 0))] w3) := Lib.hid (HB2.out.put (by omega) hg3.out hr3.out (by simp only [List.mem_cons, List.not_mem_nil, or_false]; rintro p (rfl | rfl | rfl) <;> simp <;> omega))
  clear c0_0 c0_1 c0_2 c0_3 c0_4 c0_5 c0_6 c0_7 c0_8 c0_9 c0_10 c0_11 c0_12 c0_13 c0_14 c1_0 c1_1 c1_2 c1_3 c1_4 c1_5 c1_6 c1_7 c1_8 c1_9 c1_10 c1_11 c1_12 c1_13 hr3 hg3 HB2
  obtain ⟨c0_0, c0_1, c0_2, c0_3, c0_4, c0_5, c0_6, c0_7, c0_8, c0_9, c0_10, c0_11, c0_12, c0_13, c0_14⟩ := row15 (b := w.heap.size) HB3.out.r0
  obtain ⟨c1_0, c1_1, c1_2, c1_3, c1_4, c1_5, c1_6, c1_7, c1_8, c1_9, c1_10, c1_11, c1_12, c1_13⟩ := row14 (b := w.heap.size + 1) HB3.out.r1
  go_wp2_with fail
  refine (FR.out _).mono ?_
  rintro e w4 ⟨rfl, hb4⟩
  have HB4 := Lib.hid (HB3.out.next hb4)
  clear c0_0 c0_1 c0_2 c0_3 c0_4 c0_5 c0_6 c0_7 c0_8 c0_9 c0_10 c0_11 c0_12 c0_13 c0_14 c1_0 c1_1 c1_2 c1_3 c1_4 c1_5 c1_6 c1_7 c1_8 c1_9 c1_10 c1_11 c1_12 c1_13 hb4 HB3
  obtain ⟨c0_0, c0_1, c0_2, c0_3, c0_4, c0_5, c0_6, c0_7, c0_8, c0_9, c0_10, c0_11, c0_12, c0_13, c0_14⟩ := row15 (b := w.heap.size) HB4.out.r0
  obtain ⟨c1_0, c1_1, c1_2, c1_3, c1_4, c1_5, c1_6, c1_7, c1_8, c1_9, c1_10, c1_11, c1_12, c1_13⟩ := row14 (b := w.heap.size + 1) HB4.out.r1
  go_wp2_with fail
  refine (FC.out _ HB4.out.below).mono ?_
  rintro e w5 ⟨rfl, hb5⟩
  have HB5 := Lib.hid (HB4.out.next hb5)
  clear c0_0 c0_1 c0_2 c0_3 c0_4 c0_5 c0_6 c0_7 c0_8 c0_9 c0_10 c0_11 c0_12 c0_13 c0_14 c1_0 c1_1 c1_2 c1_3 c1_4 c1_5 c1_6 c1_7 c1_8 c1_9 c1_10 c1_11 c1_12 c1_13 hb5 HB4
  obtain ⟨c0_0, c0_1, c0_2, c0_3, c0_4, c0_5, c0_6, c0_7, c0_8, c0_9, c0_10, c0_11, c0_12, c0_13, c0_14⟩ := row15 (b := w.heap.size) HB5.out.r0
  obtain ⟨c1_0, c1_1, c1_2, c1_3, c1_4, c1_5, c1_6, c1_7, c1_8, c1_9, c1_10, c1_11, c1_12, c1_13⟩ := row14 (b := w.heap.size + 1) HB5.out.r1
  go_wp2_with (with_reducible show wpList _ _ _ (Oper.mk _ (.store 38 _ _) _ _ _ _ :: _) _ _; refine Hid.out ?_)
  refine Lib.hid ?_
  refine wpList_put rfl 38 _ _ rfl (w.heap.size + 2) #[.int .i64 ya, .int .i64 yb, .int .i64 y1, .int .i64 y2, .int .i64 y3, .bool y4, .int .i64 y5, .int .i64 z1, .int .i64 z2, .int .i64 z3, .int .u32 (yc : Nat), .int .i64 ys, .int .i64 yi, .bool yf] _ 38 rfl rfl HB5.out.r2 (by kernel_rfl) rfl (by kernel_rfl) ?_
  intro w6 hr6 hg6
  have HB6 : Hid (Bx w [(w.heap.size, .cells #[.int .i64 f, .int .i64 d, .int .i64 r, .int .i64 pk, .float .f64 e1, .float .f64 e2, .float .f64 e3, .slice A cs.length cap, .int .i64 k, .int .i64 fl, .bool lv, .int .i64 2, .bool bl, .int .u32 hu, .int .u32 hd] 67 (0, 0)), (w.heap.size + 1, .cells #[.int .i64 ua, .int .i64 ub, .int .i64 u1, .int .i64 u2, .int .i64 u3, .bool u4, .int .i64 u5, .int .i64 v1, .int .i64 v2, .int .i64 v3, .int .u32 (uc : Nat), .int .i64 us, .int .i64 ui, .bool uf] 38 (0, 0)), (w.heap.size + 2, .cells #[.int .i64 ya, .int .i64 yb, .int .i64 y1, .int .i64 y2, .int .i64 y3, .bool y4, .int .i64 y5, .int .i64 z1, .int .i64 z2, .int .i64 z3, .int .u32 (yc : Nat), .int .i64 ys, .int .i64 yi, .bool yf] 38 (0, 0))] w6) := Lib.hid (HB5.out.put (by omega) hg6.out hr6.out (by simp only [List.mem_cons, List.not_mem_nil, or_false]; rintro p (rfl | rfl | rfl) <;> simp <;> omega))
  clear c0_0 c0_1 c0_2 c0_3 c0_4 c0_5 c0_6 c0_7 c0_8 c0_9 c0_10 c0_11 c0_12 c0_13 c0_14 c1_0 c1_1 c1_2 c1_3 c1_4 c1_5 c1_6 c1_7 c1_8 c1_9 c1_10 c1_11 c1_12 c1_13 hr6 hg6 HB5
  go_wp2_with fail
  exact bodyPost_ret (results_row_tmp Tryd.results18 _ _ _ _ _ (0, 0) _ rfl HB6.out.r2 Tryd.underlying38 rfl (by kernel_rfl)) rfl (⟨rfl, HB6.out.below⟩)
set_option maxHeartbeats 8000000 in
theorem control_f (b : BldD) (A : Option Addr) (cap : Nat) (k : Int) (x : Fb) (h : Cs) (s : Nc) (w : World) (hw : NcW b A w) (hg : NcG b k x h) (hs : NcS s) (hq1 : Nc.drB s = true) (hq2 : Nc.moB (Nc.move b.floors x s 0).1 = true) (hdd : ¬ x.dd = 2) :
    Calls Tryd.prog 18 #[tickV b A cap k x h, s.agg] w fun ee w' => ee = .returned (.tuple #[(Nc.control b k (Nc.carAt b k) x h s).1.agg, .int .i64 (Nc.control b k (Nc.carAt b k) x h s).2]) ∧ Below w.heap.size w w' := by
  have FD := Lib.hid (fun wx => doorRests_any s wx)
  have FY := Lib.hid (fun q (hq : q.ca < 4294967296) wx (hb : Below w.heap.size w wx) => cycle_any' b A cap k x h q wx (hw.below hb) hg hq)
  unfold Nc.control
  rw [if_neg (fun e => by rw [hq1] at e; cases e)]
  rw [hq1] at FD
  clear hq1
  have FM := Lib.hid (fun wx (hb : Below w.heap.size w wx) => ncMove_any b A cap k x h s 0 wx (hw.below hb))
  have FC := Lib.hid (fun q (hq : NcS q) wx (hb : Below w.heap.size w wx) => ncChoose_any b A cap k x h q wx (hw.below hb) hg hq)
  have hs2 : NcS (Nc.move b.floors x s 0).1 := ⟨hs.sd, hs.so, hs.ca, hs.il⟩
  clear hw hg hs
  generalize Nc.move b.floors x s 0 = t at *
  obtain ⟨t, um⟩ := t
  simp only at hs2 FM hq2 ⊢
  have FR := Lib.hid (fun wx => motionRests_any t wx)
  rw [if_neg (fun e => by rw [hq2] at e; cases e)]
  rw [hq2] at FR
  clear hq2
  rw [if_pos (by simpa using hdd)]
  have FO := Lib.hid (fun wx => foundOpen_any t wx hs2.so)
  have FY := Lib.hid (FY.out (Nc.foundOpen t) hs2.ca)
  generalize Nc.foundOpen t = tt at *
  generalize Nc.cycle (Nc.carAt b k) x tt = v at *
  obtain ⟨⟨ya, yb, ⟨y1, y2, y3, y4, y5⟩, ⟨z1, z2, z3⟩, yc, ys, yi, yf⟩, ym⟩ := v
  obtain ⟨ta, tb, ⟨t1, t2, t3, t4, t5⟩, ⟨x1, x2, x3⟩, tc, ts, ti, tf⟩ := tt
  clear FC hs2
  obtain ⟨f, d, r, pk, e1, e2, e3, cs⟩ := b
  obtain ⟨fl, lv, dd, bl⟩ := x
  obtain ⟨hu, hd⟩ := h
  obtain ⟨sd, so, ⟨d1, d2, d3, d4, d5⟩, ⟨m1, m2, m3⟩, ca, sh, il, fa⟩ := s
  obtain ⟨ua, ub, ⟨u1, u2, u3, u4, u5⟩, ⟨v1, v2, v3⟩, uc, us, ui, uf⟩ := t
  simp only at hdd
  have hBd : (dd != 2) = true := by simpa using hdd
  simp only [tickV, Nc.agg, BldD.agg, Fb.agg, Dr.agg, Mo.agg, Cs.agg] at *
  have HB0 := Lib.hid (bxs3 w (.cells #[.int .i64 f, .int .i64 d, .int .i64 r, .int .i64 pk, .float .f64 e1, .float .f64 e2, .float .f64 e3, .slice A cs.length cap, .int .i64 k, .int .i64 fl, .bool lv, .int .i64 dd, .bool bl, .int .u32 hu, .int .u32 hd] 67) (.cells #[.int .i64 sd, .int .i64 so, .int .i64 d1, .int .i64 d2, .int .i64 d3, .bool d4, .int .i64 d5, .int .i64 m1, .int .i64 m2, .int .i64 m3, .int .u32 ca, .int .i64 sh, .int .i64 il, .bool fa] 38) (.cells #[.int .i64 0, .int .i64 0, .int .i64 0, .int .i64 0, .int .i64 0, .bool false, .int .i64 0, .int .i64 0, .int .i64 0, .int .i64 0, .int .u32 0, .int .i64 0, .int .i64 0, .bool false] 38))
  go_enter Tryd.func18, Tryd.ntmps18
  go_wp2_with fail
  refine (FD.out _).mono ?_
  rintro e w1 ⟨rfl, hb1⟩
  have HB1 := Lib.hid (HB0.out.next hb1)
  clear hb1 HB0
  obtain ⟨c0_0, c0_1, c0_2, c0_3, c0_4, c0_5, c0_6, c0_7, c0_8, c0_9, c0_10, c0_11, c0_12, c0_13, c0_14⟩ := row15 (b := w.heap.size) HB1.out.r0
  obtain ⟨c1_0, c1_1, c1_2, c1_3, c1_4, c1_5, c1_6, c1_7, c1_8, c1_9, c1_10, c1_11, c1_12, c1_13⟩ := row14 (b := w.heap.size + 1) HB1.out.r1
  go_wp2_with fail
  refine (FM.out _ HB1.out.below).mono ?_
  rintro e w2 ⟨rfl, hb2⟩
  have HB2 := Lib.hid (HB1.out.next hb2)
  clear c0_0 c0_1 c0_2 c0_3 c0_4 c0_5 c0_6 c0_7 c0_8 c0_9 c0_10 c0_11 c0_12 c0_13 c0_14 c1_0 c1_1 c1_2 c1_3 c1_4 c1_5 c1_6 c1_7 c1_8 c1_9 c1_10 c1_11 c1_12 c1_13 hb2 HB1
  obtain ⟨c0_0, c0_1, c0_2, c0_3, c0_4, c0_5, c0_6, c0_7, c0_8, c0_9, c0_10, c0_11, c0_12, c0_13, c0_14⟩ := row15 (b := w.heap.size) HB2.out.r0
  obtain ⟨c1_0, c1_1, c1_2, c1_3, c1_4, c1_5, c1_6, c1_7, c1_8, c1_9, c1_10, c1_11, c1_12, c1_13⟩ := row14 (b := w.heap.size + 1) HB2.out.r1
  go_wp2_with (with_reducible show wpList _ _ _ (Oper.mk _ (.store 38 _ _) _ _ _ _ :: _) _ _; refine Hid.out ?_)
  refine Lib.hid ?_
  refine wpList_put rfl 38 _ _ rfl (w.heap.size + 1) #[.int .i64 ua, .int .i64 ub, .int .i64 u1, .int .i64 u2, .int .i64 u3, .bool u4, .int .i64 u5, .int .i64 v1, .int .i64 v2, .int .i64 v3, .int .u32 (uc : Nat), .int .i64 us, .int .i64 ui, .bool uf] _ 38 rfl rfl HB2.out.r1 (by kernel_rfl) rfl (by kernel_rfl) ?_
  intro w3 hr3 hg3
  have HB3 : Hid (Bx w [(w.heap.size, .cells #[.int .i64 f, .int .i64 d, .int .i64 r, .int .i64 pk, .float .f64 e1, .float .f64 e2, .float .f64 e3, .slice A cs.length cap, .int .i64 k, .int .i64 fl, .bool lv, .int .i64 dd, .bool bl, .int .u32 hu, .int .u32 hd] 67 (0, 0)), (w.heap.size + 1, .cells #[.int .i64 ua, .int .i64 ub, .int .i64 u1, .int .i64 u2, .int .i64 u3, .bool u4, .int .i64 u5, .int .i64 v1, .int .i64 v2, .int .i64 v3, .int .u32 (uc : Nat), .int .i64 us, .int .i64 ui, .bool uf] 38 (0, 0)), (w.heap.size + 2, .cells #[.int .i64 0, .int .i64 0, .int .i64 0, .int .i64 0, .int .i64 0, .bool false, .int .i64 0, .int .i64 0, .int .i64 0, .int .i64 0, .int .u32 0, .int .i64 0, .int .i64 0, .bool false] 38 (0, 0))] w3) := Lib.hid (HB2.out.put (by omega) hg3.out hr3.out (by simp only [List.mem_cons, List.not_mem_nil, or_false]; rintro p (rfl | rfl | rfl) <;> simp <;> omega))
  clear c0_0 c0_1 c0_2 c0_3 c0_4 c0_5 c0_6 c0_7 c0_8 c0_9 c0_10 c0_11 c0_12 c0_13 c0_14 c1_0 c1_1 c1_2 c1_3 c1_4 c1_5 c1_6 c1_7 c1_8 c1_9 c1_10 c1_11 c1_12 c1_13 hr3 hg3 HB2
  obtain ⟨c0_0, c0_1, c0_2, c0_3, c0_4, c0_5, c0_6, c0_7, c0_8, c0_9, c0_10, c0_11, c0_12, c0_13, c0_14⟩ := row15 (b := w.heap.size) HB3.out.r0
  obtain ⟨c1_0, c1_1, c1_2, c1_3, c1_4, c1_5, c1_6, c1_7, c1_8, c1_9, c1_10, c1_11, c1_12, c1_13⟩ := row14 (b := w.heap.size + 1) HB3.out.r1
  go_wp2_with fail
  refine (FR.out _).mono ?_
  rintro e w4 ⟨rfl, hb4⟩
  have HB4 := Lib.hid (HB3.out.next hb4)
  clear c0_0 c0_1 c0_2 c0_3 c0_4 c0_5 c0_6 c0_7 c0_8 c0_9 c0_10 c0_11 c0_12 c0_13 c0_14 c1_0 c1_1 c1_2 c1_3 c1_4 c1_5 c1_6 c1_7 c1_8 c1_9 c1_10 c1_11 c1_12 c1_13 hb4 HB3
  obtain ⟨c0_0, c0_1, c0_2, c0_3, c0_4, c0_5, c0_6, c0_7, c0_8, c0_9, c0_10, c0_11, c0_12, c0_13, c0_14⟩ := row15 (b := w.heap.size) HB4.out.r0
  obtain ⟨c1_0, c1_1, c1_2, c1_3, c1_4, c1_5, c1_6, c1_7, c1_8, c1_9, c1_10, c1_11, c1_12, c1_13⟩ := row14 (b := w.heap.size + 1) HB4.out.r1
  go_wp2_with fail
  have q0 : w.heap.size < w4.heap.size := (Array.getElem?_eq_some_iff.1 HB4.out.r0).1
  have q1 : w.heap.size + 1 < w4.heap.size := (Array.getElem?_eq_some_iff.1 HB4.out.r1).1
  have q2 : w.heap.size + 2 < w4.heap.size := (Array.getElem?_eq_some_iff.1 HB4.out.r2).1
  refine Chain.chain (fun p wx => Put (w4) (w.heap.size + 2) (.cells (if p = 0 then #[.int .i64 0, .int .i64 0, .int .i64 0, .int .i64 0, .int .i64 0, .bool false, .int .i64 0, .int .i64 0, .int .i64 0, .int .i64 0, .int .u32 0, .int .i64 0, .int .i64 0, .bool false] else #[.int .i64 ya, .int .i64 yb, .int .i64 y1, .int .i64 y2, .int .i64 y3, .bool y4, .int .i64 y5, .int .i64 z1, .int .i64 z2, .int .i64 z3, .int .u32 (yc : Nat), .int .i64 ys, .int .i64 yi, .bool yf]) 38 (0, 0)) wx) (fun _ _ => False) [6] (by kernel_rfl) (by kernel_rfl) (fun _ _ _ _ h => h.elim) ((Put.start HB4.out.r2).drew) ?_
  iterate 6 (first
      | (apply Chain.walk_quiet (by rfl) (by decide)
         (intro p wx hp hwn hx K hK
          obtain ⟨z0_0, z0_1, z0_2, z0_3, z0_4, z0_5, z0_6, z0_7, z0_8, z0_9, z0_10, z0_11, z0_12, z0_13, z0_14⟩ := row15 (b := w.heap.size) ((hx.other (w.heap.size) q0 (by omega)).trans HB4.out.r0)
          obtain ⟨z1_0, z1_1, z1_2, z1_3, z1_4, z1_5, z1_6, z1_7, z1_8, z1_9, z1_10, z1_11, z1_12, z1_13⟩ := row14 (b := w.heap.size + 1) ((hx.other (w.heap.size + 1) q1 (by omega)).trans HB4.out.r1)
          first
            | (go_simp
               first
                | (go_at_call 39; (with_reducible refine (FO.out _).mono ?_); rintro e x1 ⟨rfl, hb⟩; exact hK _ (hx.next hb))
                | (go_at_call 36; (with_reducible refine (FY.out _ (HB4.out.below.trans (hx.below (by omega) HB4.out.below.size))).mono ?_); rintro e x1 ⟨rfl, hb⟩; exact hK _ (hx.next hb))
                | (go_at_K; exact hK _ hx)))
         exact ⟨_, rfl⟩)
      | (refine Chain.walk_no (by rfl) (by decide) ?_; simp only [Act.put, List.setIfInBounds_toArray, List.set_cons_succ, List.set_cons_zero]))
  apply Chain.walk_turn 0 (by rfl) (by rfl)
  · intro wx hx K hK
    exact Put.store 38 _ _ rfl rfl rfl hx (by kernel_rfl) rfl (by kernel_rfl) (fun w2 h => hK w2 h)
  · exact ⟨undef, rfl⟩
  iterate 1 (
         apply Chain.walk_quiet (by rfl) (by decide)
         (intro p wx hp hwn hx K hK
          go_simp
          (go_at_K; exact hK _ hx))
         exact ⟨_, rfl⟩)
  refine Chain.walk_nil (fun w5 hp5 => ?_)
  replace hp5 : Put (w4) (w.heap.size + 2) (.cells #[.int .i64 ya, .int .i64 yb, .int .i64 y1, .int .i64 y2, .int .i64 y3, .bool y4, .int .i64 y5, .int .i64 z1, .int .i64 z2, .int .i64 z3, .int .u32 (yc : Nat), .int .i64 ys, .int .i64 yi, .bool yf] 38 (0, 0)) w5 := hp5
  try simp only [Act.put, List.setIfInBounds_toArray, List.set_cons_succ, List.set_cons_zero]
  have HB5 : Hid (Bx w [(w.heap.size, .cells #[.int .i64 f, .int .i64 d, .int .i64 r, .int .i64 pk, .float .f64 e1, .float .f64 e2, .float .f64 e3, .slice A cs.length cap, .int .i64 k, .int .i64 fl, .bool lv, .int .i64 dd, .bool bl, .int .u32 hu, .int .u32 hd] 67 (0, 0)), (w.heap.size + 1, .cells #[.int .i64 ua, .int .i64 ub, .int .i64 u1, .int .i64 u2, .int .i64 u3, .bool u4, .int .i64 u5, .int .i64 v1, .int .i64 v2, .int .i64 v3, .int .u32 (uc : Nat), .int .i64 us, .int .i64 ui, .bool uf] 38 (0, 0)), (w.heap.size + 2, .cells #[.int .i64 ya, .int .i64 yb, .int .i64 y1, .int .i64 y2, .int .i64 y3, .bool y4, .int .i64 y5, .int .i64 z1, .int .i64 z2, .int .i64 z3, .int .u32 (yc : Nat), .int .i64 ys, .int .i64 yi, .bool yf] 38 (0, 0))] w5) := Lib.hid (HB4.out.ofPut (by omega) hp5 (by simp only [List.mem_cons, List.not_mem_nil, or_false]; rintro p (rfl | rfl | rfl) <;> simp <;> omega))
  clear c0_0 c0_1 c0_2 c0_3 c0_4 c0_5 c0_6 c0_7 c0_8 c0_9 c0_10 c0_11 c0_12 c0_13 c0_14 c1_0 c1_1 c1_2 c1_3 c1_4 c1_5 c1_6 c1_7 c1_8 c1_9 c1_10 c1_11 c1_12 c1_13 hp5 HB4 q0 q1 q2
  go_wp2_with fail
  exact bodyPost_ret (results_row_tmp Tryd.results18 _ _ _ _ _ (0, 0) _ rfl HB5.out.r2 Tryd.underlying38 rfl (by kernel_rfl)) rfl (⟨rfl, HB5.out.below⟩)
set_option maxHeartbeats 8000000 in
theorem control_any (b : BldD) (A : Option Addr) (cap : Nat) (k : Int) (x : Fb) (h : Cs) (s : Nc) (w : World) (hw : NcW b A w) (hg : NcG b k x h) (hs : NcS s) :
    Calls Tryd.prog 18 #[tickV b A cap k x h, s.agg] w fun ee w' => ee = .returned (.tuple #[(Nc.control b k (Nc.carAt b k) x h s).1.agg, .int .i64 (Nc.control b k (Nc.carAt b k) x h s).2]) ∧ Below w.heap.size w w' := by
  cases hq1 : Nc.drB s
  · exact control_c b A cap k x h s w hw hg hs hq1
  · cases hq2 : Nc.moB (Nc.move b.floors x s 0).1
    · exact control_u b A cap k x h s w hw hg hs hq1 hq2
    · by_cases hdd : x.dd = 2
      · exact control_d b A cap k x h s w hw hg hs hq1 hq2 hdd
      · exact control_f b A cap k x h s w hw hg hs hq1 hq2 hdd
end Go.Proofs.YtnjcegkefjdgdaaDoor
