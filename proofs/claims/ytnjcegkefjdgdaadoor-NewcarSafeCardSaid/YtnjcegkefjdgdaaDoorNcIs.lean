/- IsState, isCar and isFeedback of package newcar. No statement of the seat is proved here. -/
import Derived.Test.YtnjcegkefjdgdaaDoorNcLeaf
import Derived.Test.YtnjcegkefjdgdaaDoorNcInv
import Derived.Test.YtnjcegkefjdgdaaDoorG23
import Derived.Test.YtnjcegkefjdgdaaDoorG8
namespace Go.Proofs.YtnjcegkefjdgdaaDoor
open Go.RowKit
set_option maxRecDepth 4000
set_option linter.unusedSimpArgs false

set_option maxHeartbeats 16000000 in
theorem ncIsState_any (b : BldD) (A : Option Addr) (cap : Nat) (s : Nc) (w : World) (hw : NcW b A w) (hn : b.cars.length ≤ 140737488355328) (hca : s.ca < 4294967296) :
    Calls Tryd.prog 14 #[b.agg A cap, s.agg] w fun ee w' => ee = .returned (.bool (Nc.isB b s)) ∧ Below w.heap.size w w' := by
  have FV := Lib.hid (fun wx (hb : Below w.heap.size w wx) => valid_any b A cap wx hn (hw.below hb).cars)
  by_cases hv : validE b = 0
  · rw [hv] at FV
    have hF := (fineP_of hv).floors
    cases hf : s.fa
    · have hR : Nc.isB b s = ((Nc.wi 0 2 s.sd && Nc.wi 0 7 s.so) && (s.dr.isB && (Mo.isB b.floors s.mo && ((Nc.drB s || Nc.moB s) && ((s.ca == Nc.fits b.floors s.ca) && (Nc.wi 0 2 s.sh && Nc.wi 0 1000000 s.il)))))) := by unfold Nc.isB Nc.stB; rw [if_pos hv, hf, if_neg (by decide)]; rfl
      rw [hR]
      clear hR
      have FA := Lib.hid (fun wx => atFloors_any b A cap s.ca wx hF hca)
      have F4 := Lib.hid (fun wx => doorRests_any s wx)
      have F5 := Lib.hid (fun wx => motionRests_any s wx)
      have F1 := Lib.hid (fun wx => isSweep_any s.sd s.so wx)
      have F2 := Lib.hid (fun wx => isState_any s.dr.st s.dr.ti s.dr.si s.dr.nu s.dr.cy wx)
      have F3 := Lib.hid (fun wx (hb : Below w.heap.size w wx) => moState_any b.floors s.mo.c s.mo.t s.mo.f wx (hw.below hb).tabs)
      have F7 := Lib.hid (fun wx => ncWithin_any 0 2 s.sh wx)
      have F8 := Lib.hid (fun wx => ncWithin_any 0 1000000 s.il wx)
      have h6 : ((s.ca : Int) == (Nc.fits b.floors s.ca : Nat)) = (s.ca == Nc.fits b.floors s.ca) := by rw [Bool.eq_iff_iff, beq_iff_eq, beq_iff_eq]; omega
      rw [show isSw s.sd s.so = (Nc.wi 0 2 s.sd && Nc.wi 0 7 s.so) from rfl] at F1
      rw [show Dr.isB ⟨s.dr.st, s.dr.ti, s.dr.si, s.dr.nu, s.dr.cy⟩ = s.dr.isB from rfl] at F2
      rw [show Mo.isB b.floors ⟨s.mo.c, s.mo.t, s.mo.f⟩ = Mo.isB b.floors s.mo from rfl] at F3
      generalize (Nc.wi 0 2 s.sd && Nc.wi 0 7 s.so) = q1 at *
      generalize s.dr.isB = q2 at *
      generalize Mo.isB b.floors s.mo = q3 at *
      generalize Nc.drB s = q4 at *
      generalize Nc.moB s = q5 at *
      generalize (s.ca == Nc.fits b.floors s.ca) = q6 at *
      generalize Nc.fits b.floors s.ca = af at *
      generalize Nc.wi 0 2 s.sh = q7 at *
      generalize Nc.wi 0 1000000 s.il = q8 at *
      clear hF hn hca hw hv
      obtain ⟨f, d, r, pk, e1, e2, e3, cs⟩ := b
      obtain ⟨sd, so, ⟨d1, d2, d3, d4, d5⟩, ⟨m1, m2, m3⟩, ca, sh, il, fa⟩ := s
      simp only at hf
      subst hf
      simp only [tickV, Nc.agg, BldD.agg, Fb.agg, Dr.agg, Mo.agg, Cs.agg] at *
      cases q1
      · have HB0 := Lib.hid (bxs2 w (.cells #[.int .i64 f, .int .i64 d, .int .i64 r, .int .i64 pk, .float .f64 e1, .float .f64 e2, .float .f64 e3, .slice A cs.length cap] 27) (.cells #[.int .i64 sd, .int .i64 so, .int .i64 d1, .int .i64 d2, .int .i64 d3, .bool d4, .int .i64 d5, .int .i64 m1, .int .i64 m2, .int .i64 m3, .int .u32 ca, .int .i64 sh, .int .i64 il, .bool false] 38))
        go_enter Tryd.func14, Tryd.ntmps14
        go_wp2_with fail
        refine (FV.out _ HB0.out.below).mono ?_
        rintro e w1 ⟨rfl, hb1⟩
        have HB1 := Lib.hid (HB0.out.next hb1)
        clear hb1 HB0
        have c0_0 : w1.cell? ⟨w.heap.size, 0, none⟩ = some (.int .i64 f) := cell_of_row _ _ _ _ _ (0, 0) HB1.out.r0
        have c0_1 : w1.cell? ⟨w.heap.size, 1, none⟩ = some (.int .i64 d) := cell_of_row _ _ _ _ _ (0, 0) HB1.out.r0
        have c0_2 : w1.cell? ⟨w.heap.size, 2, none⟩ = some (.int .i64 r) := cell_of_row _ _ _ _ _ (0, 0) HB1.out.r0
        have c0_3 : w1.cell? ⟨w.heap.size, 3, none⟩ = some (.int .i64 pk) := cell_of_row _ _ _ _ _ (0, 0) HB1.out.r0
        have c0_4 : w1.cell? ⟨w.heap.size, 4, none⟩ = some (.float .f64 e1) := cell_of_row _ _ _ _ _ (0, 0) HB1.out.r0
        have c0_5 : w1.cell? ⟨w.heap.size, 5, none⟩ = some (.float .f64 e2) := cell_of_row _ _ _ _ _ (0, 0) HB1.out.r0
        have c0_6 : w1.cell? ⟨w.heap.size, 6, none⟩ = some (.float .f64 e3) := cell_of_row _ _ _ _ _ (0, 0) HB1.out.r0
        have c0_7 : w1.cell? ⟨w.heap.size, 7, none⟩ = some (.slice A cs.length cap) := cell_of_row _ _ _ _ _ (0, 0) HB1.out.r0
        have c1_0 : w1.cell? ⟨w.heap.size + 1, 0, none⟩ = some (.int .i64 sd) := cell_of_row _ _ _ _ _ (0, 0) HB1.out.r1
        have c1_1 : w1.cell? ⟨w.heap.size + 1, 1, none⟩ = some (.int .i64 so) := cell_of_row _ _ _ _ _ (0, 0) HB1.out.r1
        have c1_2 : w1.cell? ⟨w.heap.size + 1, 2, none⟩ = some (.int .i64 d1) := cell_of_row _ _ _ _ _ (0, 0) HB1.out.r1
        have c1_3 : w1.cell? ⟨w.heap.size + 1, 3, none⟩ = some (.int .i64 d2) := cell_of_row _ _ _ _ _ (0, 0) HB1.out.r1
        have c1_4 : w1.cell? ⟨w.heap.size + 1, 4, none⟩ = some (.int .i64 d3) := cell_of_row _ _ _ _ _ (0, 0) HB1.out.r1
        have c1_5 : w1.cell? ⟨w.heap.size + 1, 5, none⟩ = some (.bool d4) := cell_of_row _ _ _ _ _ (0, 0) HB1.out.r1
        have c1_6 : w1.cell? ⟨w.heap.size + 1, 6, none⟩ = some (.int .i64 d5) := cell_of_row _ _ _ _ _ (0, 0) HB1.out.r1
        have c1_7 : w1.cell? ⟨w.heap.size + 1, 7, none⟩ = some (.int .i64 m1) := cell_of_row _ _ _ _ _ (0, 0) HB1.out.r1
        have c1_8 : w1.cell? ⟨w.heap.size + 1, 8, none⟩ = some (.int .i64 m2) := cell_of_row _ _ _ _ _ (0, 0) HB1.out.r1
        have c1_9 : w1.cell? ⟨w.heap.size + 1, 9, none⟩ = some (.int .i64 m3) := cell_of_row _ _ _ _ _ (0, 0) HB1.out.r1
        have c1_10 : w1.cell? ⟨w.heap.size + 1, 10, none⟩ = some (.int .u32 ca) := cell_of_row _ _ _ _ _ (0, 0) HB1.out.r1
        have c1_11 : w1.cell? ⟨w.heap.size + 1, 11, none⟩ = some (.int .i64 sh) := cell_of_row _ _ _ _ _ (0, 0) HB1.out.r1
        have c1_12 : w1.cell? ⟨w.heap.size + 1, 12, none⟩ = some (.int .i64 il) := cell_of_row _ _ _ _ _ (0, 0) HB1.out.r1
        have c1_13 : w1.cell? ⟨w.heap.size + 1, 13, none⟩ = some (.bool false) := cell_of_row _ _ _ _ _ (0, 0) HB1.out.r1
        go_wp2_with fail
        refine Bag.region (fun wx => Below w1.heap.size w1 wx) (by kernel_rfl) (by kernel_rfl) (Below.refl _ _).drew ?_
        iterate 43 (first
            | (apply Bag.walk_yes (by rfl)
               (intro wx hx K hK
                have HXx := HB1.out.next hx
                have z0_0 : wx.cell? ⟨w.heap.size, 0, none⟩ = some (.int .i64 f) := cell_of_row _ _ _ _ _ (0, 0) HXx.r0
                have z0_1 : wx.cell? ⟨w.heap.size, 1, none⟩ = some (.int .i64 d) := cell_of_row _ _ _ _ _ (0, 0) HXx.r0
                have z0_2 : wx.cell? ⟨w.heap.size, 2, none⟩ = some (.int .i64 r) := cell_of_row _ _ _ _ _ (0, 0) HXx.r0
                have z0_3 : wx.cell? ⟨w.heap.size, 3, none⟩ = some (.int .i64 pk) := cell_of_row _ _ _ _ _ (0, 0) HXx.r0
                have z0_4 : wx.cell? ⟨w.heap.size, 4, none⟩ = some (.float .f64 e1) := cell_of_row _ _ _ _ _ (0, 0) HXx.r0
                have z0_5 : wx.cell? ⟨w.heap.size, 5, none⟩ = some (.float .f64 e2) := cell_of_row _ _ _ _ _ (0, 0) HXx.r0
                have z0_6 : wx.cell? ⟨w.heap.size, 6, none⟩ = some (.float .f64 e3) := cell_of_row _ _ _ _ _ (0, 0) HXx.r0
                have z0_7 : wx.cell? ⟨w.heap.size, 7, none⟩ = some (.slice A cs.length cap) := cell_of_row _ _ _ _ _ (0, 0) HXx.r0
                have z1_0 : wx.cell? ⟨w.heap.size + 1, 0, none⟩ = some (.int .i64 sd) := cell_of_row _ _ _ _ _ (0, 0) HXx.r1
                have z1_1 : wx.cell? ⟨w.heap.size + 1, 1, none⟩ = some (.int .i64 so) := cell_of_row _ _ _ _ _ (0, 0) HXx.r1
                have z1_2 : wx.cell? ⟨w.heap.size + 1, 2, none⟩ = some (.int .i64 d1) := cell_of_row _ _ _ _ _ (0, 0) HXx.r1
                have z1_3 : wx.cell? ⟨w.heap.size + 1, 3, none⟩ = some (.int .i64 d2) := cell_of_row _ _ _ _ _ (0, 0) HXx.r1
                have z1_4 : wx.cell? ⟨w.heap.size + 1, 4, none⟩ = some (.int .i64 d3) := cell_of_row _ _ _ _ _ (0, 0) HXx.r1
                have z1_5 : wx.cell? ⟨w.heap.size + 1, 5, none⟩ = some (.bool d4) := cell_of_row _ _ _ _ _ (0, 0) HXx.r1
                have z1_6 : wx.cell? ⟨w.heap.size + 1, 6, none⟩ = some (.int .i64 d5) := cell_of_row _ _ _ _ _ (0, 0) HXx.r1
                have z1_7 : wx.cell? ⟨w.heap.size + 1, 7, none⟩ = some (.int .i64 m1) := cell_of_row _ _ _ _ _ (0, 0) HXx.r1
                have z1_8 : wx.cell? ⟨w.heap.size + 1, 8, none⟩ = some (.int .i64 m2) := cell_of_row _ _ _ _ _ (0, 0) HXx.r1
                have z1_9 : wx.cell? ⟨w.heap.size + 1, 9, none⟩ = some (.int .i64 m3) := cell_of_row _ _ _ _ _ (0, 0) HXx.r1
                have z1_10 : wx.cell? ⟨w.heap.size + 1, 10, none⟩ = some (.int .u32 ca) := cell_of_row _ _ _ _ _ (0, 0) HXx.r1
                have z1_11 : wx.cell? ⟨w.heap.size + 1, 11, none⟩ = some (.int .i64 sh) := cell_of_row _ _ _ _ _ (0, 0) HXx.r1
                have z1_12 : wx.cell? ⟨w.heap.size + 1, 12, none⟩ = some (.int .i64 il) := cell_of_row _ _ _ _ _ (0, 0) HXx.r1
                have z1_13 : wx.cell? ⟨w.heap.size + 1, 13, none⟩ = some (.bool false) := cell_of_row _ _ _ _ _ (0, 0) HXx.r1
                first
                  | (go_simp
                     first
                      | (go_at_call 28; (with_reducible refine (F1.out _).mono ?_); rintro e x1 ⟨rfl, hb⟩; exact hK _ (hx.trans (hb.mono hx.size)))
                      | (go_at_K; exact hK _ hx)))
               rfl)
            | (refine Bag.walk_no (by rfl) ?_; simp only [Act.put, List.setIfInBounds_toArray, List.set_cons_succ, List.set_cons_zero]))
        refine Bag.walk_nil (fun w2 hb2 => ?_)
        have HB2 := Lib.hid (HB1.out.next hb2)
        clear c0_0 c0_1 c0_2 c0_3 c0_4 c0_5 c0_6 c0_7 c1_0 c1_1 c1_2 c1_3 c1_4 c1_5 c1_6 c1_7 c1_8 c1_9 c1_10 c1_11 c1_12 c1_13 hb2 HB1
        go_wp2_with fail
        go_ret
        exact ⟨by simp, HB2.out.below⟩
      · cases q2
        · have HB0 := Lib.hid (bxs2 w (.cells #[.int .i64 f, .int .i64 d, .int .i64 r, .int .i64 pk, .float .f64 e1, .float .f64 e2, .float .f64 e3, .slice A cs.length cap] 27) (.cells #[.int .i64 sd, .int .i64 so, .int .i64 d1, .int .i64 d2, .int .i64 d3, .bool d4, .int .i64 d5, .int .i64 m1, .int .i64 m2, .int .i64 m3, .int .u32 ca, .int .i64 sh, .int .i64 il, .bool false] 38))
          go_enter Tryd.func14, Tryd.ntmps14
          go_wp2_with fail
          refine (FV.out _ HB0.out.below).mono ?_
          rintro e w1 ⟨rfl, hb1⟩
          have HB1 := Lib.hid (HB0.out.next hb1)
          clear hb1 HB0
          have c0_0 : w1.cell? ⟨w.heap.size, 0, none⟩ = some (.int .i64 f) := cell_of_row _ _ _ _ _ (0, 0) HB1.out.r0
          have c0_1 : w1.cell? ⟨w.heap.size, 1, none⟩ = some (.int .i64 d) := cell_of_row _ _ _ _ _ (0, 0) HB1.out.r0
          have c0_2 : w1.cell? ⟨w.heap.size, 2, none⟩ = some (.int .i64 r) := cell_of_row _ _ _ _ _ (0, 0) HB1.out.r0
          have c0_3 : w1.cell? ⟨w.heap.size, 3, none⟩ = some (.int .i64 pk) := cell_of_row _ _ _ _ _ (0, 0) HB1.out.r0
          have c0_4 : w1.cell? ⟨w.heap.size, 4, none⟩ = some (.float .f64 e1) := cell_of_row _ _ _ _ _ (0, 0) HB1.out.r0
          have c0_5 : w1.cell? ⟨w.heap.size, 5, none⟩ = some (.float .f64 e2) := cell_of_row _ _ _ _ _ (0, 0) HB1.out.r0
          have c0_6 : w1.cell? ⟨w.heap.size, 6, none⟩ = some (.float .f64 e3) := cell_of_row _ _ _ _ _ (0, 0) HB1.out.r0
          have c0_7 : w1.cell? ⟨w.heap.size, 7, none⟩ = some (.slice A cs.length cap) := cell_of_row _ _ _ _ _ (0, 0) HB1.out.r0
          have c1_0 : w1.cell? ⟨w.heap.size + 1, 0, none⟩ = some (.int .i64 sd) := cell_of_row _ _ _ _ _ (0, 0) HB1.out.r1
          have c1_1 : w1.cell? ⟨w.heap.size + 1, 1, none⟩ = some (.int .i64 so) := cell_of_row _ _ _ _ _ (0, 0) HB1.out.r1
          have c1_2 : w1.cell? ⟨w.heap.size + 1, 2, none⟩ = some (.int .i64 d1) := cell_of_row _ _ _ _ _ (0, 0) HB1.out.r1
          have c1_3 : w1.cell? ⟨w.heap.size + 1, 3, none⟩ = some (.int .i64 d2) := cell_of_row _ _ _ _ _ (0, 0) HB1.out.r1
          have c1_4 : w1.cell? ⟨w.heap.size + 1, 4, none⟩ = some (.int .i64 d3) := cell_of_row _ _ _ _ _ (0, 0) HB1.out.r1
          have c1_5 : w1.cell? ⟨w.heap.size + 1, 5, none⟩ = some (.bool d4) := cell_of_row _ _ _ _ _ (0, 0) HB1.out.r1
          have c1_6 : w1.cell? ⟨w.heap.size + 1, 6, none⟩ = some (.int .i64 d5) := cell_of_row _ _ _ _ _ (0, 0) HB1.out.r1
          have c1_7 : w1.cell? ⟨w.heap.size + 1, 7, none⟩ = some (.int .i64 m1) := cell_of_row _ _ _ _ _ (0, 0) HB1.out.r1
          have c1_8 : w1.cell? ⟨w.heap.size + 1, 8, none⟩ = some (.int .i64 m2) := cell_of_row _ _ _ _ _ (0, 0) HB1.out.r1
          have c1_9 : w1.cell? ⟨w.heap.size + 1, 9, none⟩ = some (.int .i64 m3) := cell_of_row _ _ _ _ _ (0, 0) HB1.out.r1
          have c1_10 : w1.cell? ⟨w.heap.size + 1, 10, none⟩ = some (.int .u32 ca) := cell_of_row _ _ _ _ _ (0, 0) HB1.out.r1
          have c1_11 : w1.cell? ⟨w.heap.size + 1, 11, none⟩ = some (.int .i64 sh) := cell_of_row _ _ _ _ _ (0, 0) HB1.out.r1
          have c1_12 : w1.cell? ⟨w.heap.size + 1, 12, none⟩ = some (.int .i64 il) := cell_of_row _ _ _ _ _ (0, 0) HB1.out.r1
          have c1_13 : w1.cell? ⟨w.heap.size + 1, 13, none⟩ = some (.bool false) := cell_of_row _ _ _ _ _ (0, 0) HB1.out.r1
          go_wp2_with fail
          refine Bag.region (fun wx => Below w1.heap.size w1 wx) (by kernel_rfl) (by kernel_rfl) (Below.refl _ _).drew ?_
          iterate 43 (first
              | (apply Bag.walk_yes (by rfl)
                 (intro wx hx K hK
                  have HXx := HB1.out.next hx
                  have z0_0 : wx.cell? ⟨w.heap.size, 0, none⟩ = some (.int .i64 f) := cell_of_row _ _ _ _ _ (0, 0) HXx.r0
                  have z0_1 : wx.cell? ⟨w.heap.size, 1, none⟩ = some (.int .i64 d) := cell_of_row _ _ _ _ _ (0, 0) HXx.r0
                  have z0_2 : wx.cell? ⟨w.heap.size, 2, none⟩ = some (.int .i64 r) := cell_of_row _ _ _ _ _ (0, 0) HXx.r0
                  have z0_3 : wx.cell? ⟨w.heap.size, 3, none⟩ = some (.int .i64 pk) := cell_of_row _ _ _ _ _ (0, 0) HXx.r0
                  have z0_4 : wx.cell? ⟨w.heap.size, 4, none⟩ = some (.float .f64 e1) := cell_of_row _ _ _ _ _ (0, 0) HXx.r0
                  have z0_5 : wx.cell? ⟨w.heap.size, 5, none⟩ = some (.float .f64 e2) := cell_of_row _ _ _ _ _ (0, 0) HXx.r0
                  have z0_6 : wx.cell? ⟨w.heap.size, 6, none⟩ = some (.float .f64 e3) := cell_of_row _ _ _ _ _ (0, 0) HXx.r0
                  have z0_7 : wx.cell? ⟨w.heap.size, 7, none⟩ = some (.slice A cs.length cap) := cell_of_row _ _ _ _ _ (0, 0) HXx.r0
                  have z1_0 : wx.cell? ⟨w.heap.size + 1, 0, none⟩ = some (.int .i64 sd) := cell_of_row _ _ _ _ _ (0, 0) HXx.r1
                  have z1_1 : wx.cell? ⟨w.heap.size + 1, 1, none⟩ = some (.int .i64 so) := cell_of_row _ _ _ _ _ (0, 0) HXx.r1
                  have z1_2 : wx.cell? ⟨w.heap.size + 1, 2, none⟩ = some (.int .i64 d1) := cell_of_row _ _ _ _ _ (0, 0) HXx.r1
                  have z1_3 : wx.cell? ⟨w.heap.size + 1, 3, none⟩ = some (.int .i64 d2) := cell_of_row _ _ _ _ _ (0, 0) HXx.r1
                  have z1_4 : wx.cell? ⟨w.heap.size + 1, 4, none⟩ = some (.int .i64 d3) := cell_of_row _ _ _ _ _ (0, 0) HXx.r1
                  have z1_5 : wx.cell? ⟨w.heap.size + 1, 5, none⟩ = some (.bool d4) := cell_of_row _ _ _ _ _ (0, 0) HXx.r1
                  have z1_6 : wx.cell? ⟨w.heap.size + 1, 6, none⟩ = some (.int .i64 d5) := cell_of_row _ _ _ _ _ (0, 0) HXx.r1
                  have z1_7 : wx.cell? ⟨w.heap.size + 1, 7, none⟩ = some (.int .i64 m1) := cell_of_row _ _ _ _ _ (0, 0) HXx.r1
                  have z1_8 : wx.cell? ⟨w.heap.size + 1, 8, none⟩ = some (.int .i64 m2) := cell_of_row _ _ _ _ _ (0, 0) HXx.r1
                  have z1_9 : wx.cell? ⟨w.heap.size + 1, 9, none⟩ = some (.int .i64 m3) := cell_of_row _ _ _ _ _ (0, 0) HXx.r1
                  have z1_10 : wx.cell? ⟨w.heap.size + 1, 10, none⟩ = some (.int .u32 ca) := cell_of_row _ _ _ _ _ (0, 0) HXx.r1
                  have z1_11 : wx.cell? ⟨w.heap.size + 1, 11, none⟩ = some (.int .i64 sh) := cell_of_row _ _ _ _ _ (0, 0) HXx.r1
                  have z1_12 : wx.cell? ⟨w.heap.size + 1, 12, none⟩ = some (.int .i64 il) := cell_of_row _ _ _ _ _ (0, 0) HXx.r1
                  have z1_13 : wx.cell? ⟨w.heap.size + 1, 13, none⟩ = some (.bool false) := cell_of_row _ _ _ _ _ (0, 0) HXx.r1
                  first
                    | (go_simp
                       first
                        | (go_at_call 28; (with_reducible refine (F1.out _).mono ?_); rintro e x1 ⟨rfl, hb⟩; exact hK _ (hx.trans (hb.mono hx.size)))
                        | (go_at_call 29; (with_reducible refine (F2.out _).mono ?_); rintro e x1 ⟨rfl, hb⟩; exact hK _ (hx.trans (hb.mono hx.size)))
                        | (go_at_K; exact hK _ hx)))
                 rfl)
              | (refine Bag.walk_no (by rfl) ?_; simp only [Act.put, List.setIfInBounds_toArray, List.set_cons_succ, List.set_cons_zero]))
          refine Bag.walk_nil (fun w2 hb2 => ?_)
          have HB2 := Lib.hid (HB1.out.next hb2)
          clear c0_0 c0_1 c0_2 c0_3 c0_4 c0_5 c0_6 c0_7 c1_0 c1_1 c1_2 c1_3 c1_4 c1_5 c1_6 c1_7 c1_8 c1_9 c1_10 c1_11 c1_12 c1_13 hb2 HB1
          go_wp2_with fail
          go_ret
          exact ⟨by simp, HB2.out.below⟩
        · cases q3
          · have HB0 := Lib.hid (bxs2 w (.cells #[.int .i64 f, .int .i64 d, .int .i64 r, .int .i64 pk, .float .f64 e1, .float .f64 e2, .float .f64 e3, .slice A cs.length cap] 27) (.cells #[.int .i64 sd, .int .i64 so, .int .i64 d1, .int .i64 d2, .int .i64 d3, .bool d4, .int .i64 d5, .int .i64 m1, .int .i64 m2, .int .i64 m3, .int .u32 ca, .int .i64 sh, .int .i64 il, .bool false] 38))
            go_enter Tryd.func14, Tryd.ntmps14
            go_wp2_with fail
            refine (FV.out _ HB0.out.below).mono ?_
            rintro e w1 ⟨rfl, hb1⟩
            have HB1 := Lib.hid (HB0.out.next hb1)
            clear hb1 HB0
            have c0_0 : w1.cell? ⟨w.heap.size, 0, none⟩ = some (.int .i64 f) := cell_of_row _ _ _ _ _ (0, 0) HB1.out.r0
            have c0_1 : w1.cell? ⟨w.heap.size, 1, none⟩ = some (.int .i64 d) := cell_of_row _ _ _ _ _ (0, 0) HB1.out.r0
            have c0_2 : w1.cell? ⟨w.heap.size, 2, none⟩ = some (.int .i64 r) := cell_of_row _ _ _ _ _ (0, 0) HB1.out.r0
            have c0_3 : w1.cell? ⟨w.heap.size, 3, none⟩ = some (.int .i64 pk) := cell_of_row _ _ _ _ _ (0, 0) HB1.out.r0
            have c0_4 : w1.cell? ⟨w.heap.size, 4, none⟩ = some (.float .f64 e1) := cell_of_row _ _ _ _ _ (0, 0) HB1.out.r0
            have c0_5 : w1.cell? ⟨w.heap.size, 5, none⟩ = some (.float .f64 e2) := cell_of_row _ _ _ _ _ (0, 0) HB1.out.r0
            have c0_6 : w1.cell? ⟨w.heap.size, 6, none⟩ = some (.float .f64 e3) := cell_of_row _ _ _ _ _ (0, 0) HB1.out.r0
            have c0_7 : w1.cell? ⟨w.heap.size, 7, none⟩ = some (.slice A cs.length cap) := cell_of_row _ _ _ _ _ (0, 0) HB1.out.r0
            have c1_0 : w1.cell? ⟨w.heap.size + 1, 0, none⟩ = some (.int .i64 sd) := cell_of_row _ _ _ _ _ (0, 0) HB1.out.r1
            have c1_1 : w1.cell? ⟨w.heap.size + 1, 1, none⟩ = some (.int .i64 so) := cell_of_row _ _ _ _ _ (0, 0) HB1.out.r1
            have c1_2 : w1.cell? ⟨w.heap.size + 1, 2, none⟩ = some (.int .i64 d1) := cell_of_row _ _ _ _ _ (0, 0) HB1.out.r1
            have c1_3 : w1.cell? ⟨w.heap.size + 1, 3, none⟩ = some (.int .i64 d2) := cell_of_row _ _ _ _ _ (0, 0) HB1.out.r1
            have c1_4 : w1.cell? ⟨w.heap.size + 1, 4, none⟩ = some (.int .i64 d3) := cell_of_row _ _ _ _ _ (0, 0) HB1.out.r1
            have c1_5 : w1.cell? ⟨w.heap.size + 1, 5, none⟩ = some (.bool d4) := cell_of_row _ _ _ _ _ (0, 0) HB1.out.r1
            have c1_6 : w1.cell? ⟨w.heap.size + 1, 6, none⟩ = some (.int .i64 d5) := cell_of_row _ _ _ _ _ (0, 0) HB1.out.r1
            have c1_7 : w1.cell? ⟨w.heap.size + 1, 7, none⟩ = some (.int .i64 m1) := cell_of_row _ _ _ _ _ (0, 0) HB1.out.r1
            have c1_8 : w1.cell? ⟨w.heap.size + 1, 8, none⟩ = some (.int .i64 m2) := cell_of_row _ _ _ _ _ (0, 0) HB1.out.r1
            have c1_9 : w1.cell? ⟨w.heap.size + 1, 9, none⟩ = some (.int .i64 m3) := cell_of_row _ _ _ _ _ (0, 0) HB1.out.r1
            have c1_10 : w1.cell? ⟨w.heap.size + 1, 10, none⟩ = some (.int .u32 ca) := cell_of_row _ _ _ _ _ (0, 0) HB1.out.r1
            have c1_11 : w1.cell? ⟨w.heap.size + 1, 11, none⟩ = some (.int .i64 sh) := cell_of_row _ _ _ _ _ (0, 0) HB1.out.r1
            have c1_12 : w1.cell? ⟨w.heap.size + 1, 12, none⟩ = some (.int .i64 il) := cell_of_row _ _ _ _ _ (0, 0) HB1.out.r1
            have c1_13 : w1.cell? ⟨w.heap.size + 1, 13, none⟩ = some (.bool false) := cell_of_row _ _ _ _ _ (0, 0) HB1.out.r1
            go_wp2_with fail
            refine Bag.region (fun wx => Below w1.heap.size w1 wx) (by kernel_rfl) (by kernel_rfl) (Below.refl _ _).drew ?_
            iterate 43 (first
                | (apply Bag.walk_yes (by rfl)
                   (intro wx hx K hK
                    have HXx := HB1.out.next hx
                    have z0_0 : wx.cell? ⟨w.heap.size, 0, none⟩ = some (.int .i64 f) := cell_of_row _ _ _ _ _ (0, 0) HXx.r0
                    have z0_1 : wx.cell? ⟨w.heap.size, 1, none⟩ = some (.int .i64 d) := cell_of_row _ _ _ _ _ (0, 0) HXx.r0
                    have z0_2 : wx.cell? ⟨w.heap.size, 2, none⟩ = some (.int .i64 r) := cell_of_row _ _ _ _ _ (0, 0) HXx.r0
                    have z0_3 : wx.cell? ⟨w.heap.size, 3, none⟩ = some (.int .i64 pk) := cell_of_row _ _ _ _ _ (0, 0) HXx.r0
                    have z0_4 : wx.cell? ⟨w.heap.size, 4, none⟩ = some (.float .f64 e1) := cell_of_row _ _ _ _ _ (0, 0) HXx.r0
                    have z0_5 : wx.cell? ⟨w.heap.size, 5, none⟩ = some (.float .f64 e2) := cell_of_row _ _ _ _ _ (0, 0) HXx.r0
                    have z0_6 : wx.cell? ⟨w.heap.size, 6, none⟩ = some (.float .f64 e3) := cell_of_row _ _ _ _ _ (0, 0) HXx.r0
                    have z0_7 : wx.cell? ⟨w.heap.size, 7, none⟩ = some (.slice A cs.length cap) := cell_of_row _ _ _ _ _ (0, 0) HXx.r0
                    have z1_0 : wx.cell? ⟨w.heap.size + 1, 0, none⟩ = some (.int .i64 sd) := cell_of_row _ _ _ _ _ (0, 0) HXx.r1
                    have z1_1 : wx.cell? ⟨w.heap.size + 1, 1, none⟩ = some (.int .i64 so) := cell_of_row _ _ _ _ _ (0, 0) HXx.r1
                    have z1_2 : wx.cell? ⟨w.heap.size + 1, 2, none⟩ = some (.int .i64 d1) := cell_of_row _ _ _ _ _ (0, 0) HXx.r1
                    have z1_3 : wx.cell? ⟨w.heap.size + 1, 3, none⟩ = some (.int .i64 d2) := cell_of_row _ _ _ _ _ (0, 0) HXx.r1
                    have z1_4 : wx.cell? ⟨w.heap.size + 1, 4, none⟩ = some (.int .i64 d3) := cell_of_row _ _ _ _ _ (0, 0) HXx.r1
                    have z1_5 : wx.cell? ⟨w.heap.size + 1, 5, none⟩ = some (.bool d4) := cell_of_row _ _ _ _ _ (0, 0) HXx.r1
                    have z1_6 : wx.cell? ⟨w.heap.size + 1, 6, none⟩ = some (.int .i64 d5) := cell_of_row _ _ _ _ _ (0, 0) HXx.r1
                    have z1_7 : wx.cell? ⟨w.heap.size + 1, 7, none⟩ = some (.int .i64 m1) := cell_of_row _ _ _ _ _ (0, 0) HXx.r1
                    have z1_8 : wx.cell? ⟨w.heap.size + 1, 8, none⟩ = some (.int .i64 m2) := cell_of_row _ _ _ _ _ (0, 0) HXx.r1
                    have z1_9 : wx.cell? ⟨w.heap.size + 1, 9, none⟩ = some (.int .i64 m3) := cell_of_row _ _ _ _ _ (0, 0) HXx.r1
                    have z1_10 : wx.cell? ⟨w.heap.size + 1, 10, none⟩ = some (.int .u32 ca) := cell_of_row _ _ _ _ _ (0, 0) HXx.r1
                    have z1_11 : wx.cell? ⟨w.heap.size + 1, 11, none⟩ = some (.int .i64 sh) := cell_of_row _ _ _ _ _ (0, 0) HXx.r1
                    have z1_12 : wx.cell? ⟨w.heap.size + 1, 12, none⟩ = some (.int .i64 il) := cell_of_row _ _ _ _ _ (0, 0) HXx.r1
                    have z1_13 : wx.cell? ⟨w.heap.size + 1, 13, none⟩ = some (.bool false) := cell_of_row _ _ _ _ _ (0, 0) HXx.r1
                    first
                      | (go_simp
                         first
                          | (go_at_call 28; (with_reducible refine (F1.out _).mono ?_); rintro e x1 ⟨rfl, hb⟩; exact hK _ (hx.trans (hb.mono hx.size)))
                          | (go_at_call 29; (with_reducible refine (F2.out _).mono ?_); rintro e x1 ⟨rfl, hb⟩; exact hK _ (hx.trans (hb.mono hx.size)))
                          | (go_at_call 30; (with_reducible refine (F3.out _ HXx.below).mono ?_); rintro e x1 ⟨rfl, hb⟩; exact hK _ (hx.trans (hb.mono hx.size)))
                          | (go_at_K; exact hK _ hx)))
                   rfl)
                | (refine Bag.walk_no (by rfl) ?_; simp only [Act.put, List.setIfInBounds_toArray, List.set_cons_succ, List.set_cons_zero]))
            refine Bag.walk_nil (fun w2 hb2 => ?_)
            have HB2 := Lib.hid (HB1.out.next hb2)
            clear c0_0 c0_1 c0_2 c0_3 c0_4 c0_5 c0_6 c0_7 c1_0 c1_1 c1_2 c1_3 c1_4 c1_5 c1_6 c1_7 c1_8 c1_9 c1_10 c1_11 c1_12 c1_13 hb2 HB1
            go_wp2_with fail
            go_ret
            exact ⟨by simp, HB2.out.below⟩
          · cases q4
            · cases q5
              · have HB0 := Lib.hid (bxs2 w (.cells #[.int .i64 f, .int .i64 d, .int .i64 r, .int .i64 pk, .float .f64 e1, .float .f64 e2, .float .f64 e3, .slice A cs.length cap] 27) (.cells #[.int .i64 sd, .int .i64 so, .int .i64 d1, .int .i64 d2, .int .i64 d3, .bool d4, .int .i64 d5, .int .i64 m1, .int .i64 m2, .int .i64 m3, .int .u32 ca, .int .i64 sh, .int .i64 il, .bool false] 38))
                go_enter Tryd.func14, Tryd.ntmps14
                go_wp2_with fail
                refine (FV.out _ HB0.out.below).mono ?_
                rintro e w1 ⟨rfl, hb1⟩
                have HB1 := Lib.hid (HB0.out.next hb1)
                clear hb1 HB0
                have c0_0 : w1.cell? ⟨w.heap.size, 0, none⟩ = some (.int .i64 f) := cell_of_row _ _ _ _ _ (0, 0) HB1.out.r0
                have c0_1 : w1.cell? ⟨w.heap.size, 1, none⟩ = some (.int .i64 d) := cell_of_row _ _ _ _ _ (0, 0) HB1.out.r0
                have c0_2 : w1.cell? ⟨w.heap.size, 2, none⟩ = some (.int .i64 r) := cell_of_row _ _ _ _ _ (0, 0) HB1.out.r0
                have c0_3 : w1.cell? ⟨w.heap.size, 3, none⟩ = some (.int .i64 pk) := cell_of_row _ _ _ _ _ (0, 0) HB1.out.r0
                have c0_4 : w1.cell? ⟨w.heap.size, 4, none⟩ = some (.float .f64 e1) := cell_of_row _ _ _ _ _ (0, 0) HB1.out.r0
                have c0_5 : w1.cell? ⟨w.heap.size, 5, none⟩ = some (.float .f64 e2) := cell_of_row _ _ _ _ _ (0, 0) HB1.out.r0
                have c0_6 : w1.cell? ⟨w.heap.size, 6, none⟩ = some (.float .f64 e3) := cell_of_row _ _ _ _ _ (0, 0) HB1.out.r0
                have c0_7 : w1.cell? ⟨w.heap.size, 7, none⟩ = some (.slice A cs.length cap) := cell_of_row _ _ _ _ _ (0, 0) HB1.out.r0
                have c1_0 : w1.cell? ⟨w.heap.size + 1, 0, none⟩ = some (.int .i64 sd) := cell_of_row _ _ _ _ _ (0, 0) HB1.out.r1
                have c1_1 : w1.cell? ⟨w.heap.size + 1, 1, none⟩ = some (.int .i64 so) := cell_of_row _ _ _ _ _ (0, 0) HB1.out.r1
                have c1_2 : w1.cell? ⟨w.heap.size + 1, 2, none⟩ = some (.int .i64 d1) := cell_of_row _ _ _ _ _ (0, 0) HB1.out.r1
                have c1_3 : w1.cell? ⟨w.heap.size + 1, 3, none⟩ = some (.int .i64 d2) := cell_of_row _ _ _ _ _ (0, 0) HB1.out.r1
                have c1_4 : w1.cell? ⟨w.heap.size + 1, 4, none⟩ = some (.int .i64 d3) := cell_of_row _ _ _ _ _ (0, 0) HB1.out.r1
                have c1_5 : w1.cell? ⟨w.heap.size + 1, 5, none⟩ = some (.bool d4) := cell_of_row _ _ _ _ _ (0, 0) HB1.out.r1
                have c1_6 : w1.cell? ⟨w.heap.size + 1, 6, none⟩ = some (.int .i64 d5) := cell_of_row _ _ _ _ _ (0, 0) HB1.out.r1
                have c1_7 : w1.cell? ⟨w.heap.size + 1, 7, none⟩ = some (.int .i64 m1) := cell_of_row _ _ _ _ _ (0, 0) HB1.out.r1
                have c1_8 : w1.cell? ⟨w.heap.size + 1, 8, none⟩ = some (.int .i64 m2) := cell_of_row _ _ _ _ _ (0, 0) HB1.out.r1
                have c1_9 : w1.cell? ⟨w.heap.size + 1, 9, none⟩ = some (.int .i64 m3) := cell_of_row _ _ _ _ _ (0, 0) HB1.out.r1
                have c1_10 : w1.cell? ⟨w.heap.size + 1, 10, none⟩ = some (.int .u32 ca) := cell_of_row _ _ _ _ _ (0, 0) HB1.out.r1
                have c1_11 : w1.cell? ⟨w.heap.size + 1, 11, none⟩ = some (.int .i64 sh) := cell_of_row _ _ _ _ _ (0, 0) HB1.out.r1
                have c1_12 : w1.cell? ⟨w.heap.size + 1, 12, none⟩ = some (.int .i64 il) := cell_of_row _ _ _ _ _ (0, 0) HB1.out.r1
                have c1_13 : w1.cell? ⟨w.heap.size + 1, 13, none⟩ = some (.bool false) := cell_of_row _ _ _ _ _ (0, 0) HB1.out.r1
                go_wp2_with fail
                refine Bag.region (fun wx => Below w1.heap.size w1 wx) (by kernel_rfl) (by kernel_rfl) (Below.refl _ _).drew ?_
                iterate 43 (first
                    | (apply Bag.walk_yes (by rfl)
                       (intro wx hx K hK
                        have HXx := HB1.out.next hx
                        have z0_0 : wx.cell? ⟨w.heap.size, 0, none⟩ = some (.int .i64 f) := cell_of_row _ _ _ _ _ (0, 0) HXx.r0
                        have z0_1 : wx.cell? ⟨w.heap.size, 1, none⟩ = some (.int .i64 d) := cell_of_row _ _ _ _ _ (0, 0) HXx.r0
                        have z0_2 : wx.cell? ⟨w.heap.size, 2, none⟩ = some (.int .i64 r) := cell_of_row _ _ _ _ _ (0, 0) HXx.r0
                        have z0_3 : wx.cell? ⟨w.heap.size, 3, none⟩ = some (.int .i64 pk) := cell_of_row _ _ _ _ _ (0, 0) HXx.r0
                        have z0_4 : wx.cell? ⟨w.heap.size, 4, none⟩ = some (.float .f64 e1) := cell_of_row _ _ _ _ _ (0, 0) HXx.r0
                        have z0_5 : wx.cell? ⟨w.heap.size, 5, none⟩ = some (.float .f64 e2) := cell_of_row _ _ _ _ _ (0, 0) HXx.r0
                        have z0_6 : wx.cell? ⟨w.heap.size, 6, none⟩ = some (.float .f64 e3) := cell_of_row _ _ _ _ _ (0, 0) HXx.r0
                        have z0_7 : wx.cell? ⟨w.heap.size, 7, none⟩ = some (.slice A cs.length cap) := cell_of_row _ _ _ _ _ (0, 0) HXx.r0
                        have z1_0 : wx.cell? ⟨w.heap.size + 1, 0, none⟩ = some (.int .i64 sd) := cell_of_row _ _ _ _ _ (0, 0) HXx.r1
                        have z1_1 : wx.cell? ⟨w.heap.size + 1, 1, none⟩ = some (.int .i64 so) := cell_of_row _ _ _ _ _ (0, 0) HXx.r1
                        have z1_2 : wx.cell? ⟨w.heap.size + 1, 2, none⟩ = some (.int .i64 d1) := cell_of_row _ _ _ _ _ (0, 0) HXx.r1
                        have z1_3 : wx.cell? ⟨w.heap.size + 1, 3, none⟩ = some (.int .i64 d2) := cell_of_row _ _ _ _ _ (0, 0) HXx.r1
                        have z1_4 : wx.cell? ⟨w.heap.size + 1, 4, none⟩ = some (.int .i64 d3) := cell_of_row _ _ _ _ _ (0, 0) HXx.r1
                        have z1_5 : wx.cell? ⟨w.heap.size + 1, 5, none⟩ = some (.bool d4) := cell_of_row _ _ _ _ _ (0, 0) HXx.r1
                        have z1_6 : wx.cell? ⟨w.heap.size + 1, 6, none⟩ = some (.int .i64 d5) := cell_of_row _ _ _ _ _ (0, 0) HXx.r1
                        have z1_7 : wx.cell? ⟨w.heap.size + 1, 7, none⟩ = some (.int .i64 m1) := cell_of_row _ _ _ _ _ (0, 0) HXx.r1
                        have z1_8 : wx.cell? ⟨w.heap.size + 1, 8, none⟩ = some (.int .i64 m2) := cell_of_row _ _ _ _ _ (0, 0) HXx.r1
                        have z1_9 : wx.cell? ⟨w.heap.size + 1, 9, none⟩ = some (.int .i64 m3) := cell_of_row _ _ _ _ _ (0, 0) HXx.r1
                        have z1_10 : wx.cell? ⟨w.heap.size + 1, 10, none⟩ = some (.int .u32 ca) := cell_of_row _ _ _ _ _ (0, 0) HXx.r1
                        have z1_11 : wx.cell? ⟨w.heap.size + 1, 11, none⟩ = some (.int .i64 sh) := cell_of_row _ _ _ _ _ (0, 0) HXx.r1
                        have z1_12 : wx.cell? ⟨w.heap.size + 1, 12, none⟩ = some (.int .i64 il) := cell_of_row _ _ _ _ _ (0, 0) HXx.r1
                        have z1_13 : wx.cell? ⟨w.heap.size + 1, 13, none⟩ = some (.bool false) := cell_of_row _ _ _ _ _ (0, 0) HXx.r1
                        first
                          | (go_simp
                             first
                              | (go_at_call 28; (with_reducible refine (F1.out _).mono ?_); rintro e x1 ⟨rfl, hb⟩; exact hK _ (hx.trans (hb.mono hx.size)))
                              | (go_at_call 29; (with_reducible refine (F2.out _).mono ?_); rintro e x1 ⟨rfl, hb⟩; exact hK _ (hx.trans (hb.mono hx.size)))
                              | (go_at_call 30; (with_reducible refine (F3.out _ HXx.below).mono ?_); rintro e x1 ⟨rfl, hb⟩; exact hK _ (hx.trans (hb.mono hx.size)))
                              | (go_at_call 31; (with_reducible refine (F4.out _).mono ?_); rintro e x1 ⟨rfl, hb⟩; exact hK _ (hx.trans (hb.mono hx.size)))
                              | (go_at_call 32; (with_reducible refine (F5.out _).mono ?_); rintro e x1 ⟨rfl, hb⟩; exact hK _ (hx.trans (hb.mono hx.size)))
                              | (go_at_K; exact hK _ hx)))
                       rfl)
                    | (refine Bag.walk_no (by rfl) ?_; simp only [Act.put, List.setIfInBounds_toArray, List.set_cons_succ, List.set_cons_zero]))
                refine Bag.walk_nil (fun w2 hb2 => ?_)
                have HB2 := Lib.hid (HB1.out.next hb2)
                clear c0_0 c0_1 c0_2 c0_3 c0_4 c0_5 c0_6 c0_7 c1_0 c1_1 c1_2 c1_3 c1_4 c1_5 c1_6 c1_7 c1_8 c1_9 c1_10 c1_11 c1_12 c1_13 hb2 HB1
                go_wp2_with fail
                go_ret
                exact ⟨by simp, HB2.out.below⟩
              · cases q6
                · have HB0 := Lib.hid (bxs2 w (.cells #[.int .i64 f, .int .i64 d, .int .i64 r, .int .i64 pk, .float .f64 e1, .float .f64 e2, .float .f64 e3, .slice A cs.length cap] 27) (.cells #[.int .i64 sd, .int .i64 so, .int .i64 d1, .int .i64 d2, .int .i64 d3, .bool d4, .int .i64 d5, .int .i64 m1, .int .i64 m2, .int .i64 m3, .int .u32 ca, .int .i64 sh, .int .i64 il, .bool false] 38))
                  go_enter Tryd.func14, Tryd.ntmps14
                  go_wp2_with fail
                  refine (FV.out _ HB0.out.below).mono ?_
                  rintro e w1 ⟨rfl, hb1⟩
                  have HB1 := Lib.hid (HB0.out.next hb1)
                  clear hb1 HB0
                  have c0_0 : w1.cell? ⟨w.heap.size, 0, none⟩ = some (.int .i64 f) := cell_of_row _ _ _ _ _ (0, 0) HB1.out.r0
                  have c0_1 : w1.cell? ⟨w.heap.size, 1, none⟩ = some (.int .i64 d) := cell_of_row _ _ _ _ _ (0, 0) HB1.out.r0
                  have c0_2 : w1.cell? ⟨w.heap.size, 2, none⟩ = some (.int .i64 r) := cell_of_row _ _ _ _ _ (0, 0) HB1.out.r0
                  have c0_3 : w1.cell? ⟨w.heap.size, 3, none⟩ = some (.int .i64 pk) := cell_of_row _ _ _ _ _ (0, 0) HB1.out.r0
                  have c0_4 : w1.cell? ⟨w.heap.size, 4, none⟩ = some (.float .f64 e1) := cell_of_row _ _ _ _ _ (0, 0) HB1.out.r0
                  have c0_5 : w1.cell? ⟨w.heap.size, 5, none⟩ = some (.float .f64 e2) := cell_of_row _ _ _ _ _ (0, 0) HB1.out.r0
                  have c0_6 : w1.cell? ⟨w.heap.size, 6, none⟩ = some (.float .f64 e3) := cell_of_row _ _ _ _ _ (0, 0) HB1.out.r0
                  have c0_7 : w1.cell? ⟨w.heap.size, 7, none⟩ = some (.slice A cs.length cap) := cell_of_row _ _ _ _ _ (0, 0) HB1.out.r0
                  have c1_0 : w1.cell? ⟨w.heap.size + 1, 0, none⟩ = some (.int .i64 sd) := cell_of_row _ _ _ _ _ (0, 0) HB1.out.r1
                  have c1_1 : w1.cell? ⟨w.heap.size + 1, 1, none⟩ = some (.int .i64 so) := cell_of_row _ _ _ _ _ (0, 0) HB1.out.r1
                  have c1_2 : w1.cell? ⟨w.heap.size + 1, 2, none⟩ = some (.int .i64 d1) := cell_of_row _ _ _ _ _ (0, 0) HB1.out.r1
                  have c1_3 : w1.cell? ⟨w.heap.size + 1, 3, none⟩ = some (.int .i64 d2) := cell_of_row _ _ _ _ _ (0, 0) HB1.out.r1
                  have c1_4 : w1.cell? ⟨w.heap.size + 1, 4, none⟩ = some (.int .i64 d3) := cell_of_row _ _ _ _ _ (0, 0) HB1.out.r1
                  have c1_5 : w1.cell? ⟨w.heap.size + 1, 5, none⟩ = some (.bool d4) := cell_of_row _ _ _ _ _ (0, 0) HB1.out.r1
                  have c1_6 : w1.cell? ⟨w.heap.size + 1, 6, none⟩ = some (.int .i64 d5) := cell_of_row _ _ _ _ _ (0, 0) HB1.out.r1
                  have c1_7 : w1.cell? ⟨w.heap.size + 1, 7, none⟩ = some (.int .i64 m1) := cell_of_row _ _ _ _ _ (0, 0) HB1.out.r1
                  have c1_8 : w1.cell? ⟨w.heap.size + 1, 8, none⟩ = some (.int .i64 m2) := cell_of_row _ _ _ _ _ (0, 0) HB1.out.r1
                  have c1_9 : w1.cell? ⟨w.heap.size + 1, 9, none⟩ = some (.int .i64 m3) := cell_of_row _ _ _ _ _ (0, 0) HB1.out.r1
                  have c1_10 : w1.cell? ⟨w.heap.size + 1, 10, none⟩ = some (.int .u32 ca) := cell_of_row _ _ _ _ _ (0, 0) HB1.out.r1
                  have c1_11 : w1.cell? ⟨w.heap.size + 1, 11, none⟩ = some (.int .i64 sh) := cell_of_row _ _ _ _ _ (0, 0) HB1.out.r1
                  have c1_12 : w1.cell? ⟨w.heap.size + 1, 12, none⟩ = some (.int .i64 il) := cell_of_row _ _ _ _ _ (0, 0) HB1.out.r1
                  have c1_13 : w1.cell? ⟨w.heap.size + 1, 13, none⟩ = some (.bool false) := cell_of_row _ _ _ _ _ (0, 0) HB1.out.r1
                  go_wp2_with fail
                  refine Bag.region (fun wx => Below w1.heap.size w1 wx) (by kernel_rfl) (by kernel_rfl) (Below.refl _ _).drew ?_
                  iterate 43 (first
                      | (apply Bag.walk_yes (by rfl)
                         (intro wx hx K hK
                          have HXx := HB1.out.next hx
                          have z0_0 : wx.cell? ⟨w.heap.size, 0, none⟩ = some (.int .i64 f) := cell_of_row _ _ _ _ _ (0, 0) HXx.r0
                          have z0_1 : wx.cell? ⟨w.heap.size, 1, none⟩ = some (.int .i64 d) := cell_of_row _ _ _ _ _ (0, 0) HXx.r0
                          have z0_2 : wx.cell? ⟨w.heap.size, 2, none⟩ = some (.int .i64 r) := cell_of_row _ _ _ _ _ (0, 0) HXx.r0
                          have z0_3 : wx.cell? ⟨w.heap.size, 3, none⟩ = some (.int .i64 pk) := cell_of_row _ _ _ _ _ (0, 0) HXx.r0
                          have z0_4 : wx.cell? ⟨w.heap.size, 4, none⟩ = some (.float .f64 e1) := cell_of_row _ _ _ _ _ (0, 0) HXx.r0
                          have z0_5 : wx.cell? ⟨w.heap.size, 5, none⟩ = some (.float .f64 e2) := cell_of_row _ _ _ _ _ (0, 0) HXx.r0
                          have z0_6 : wx.cell? ⟨w.heap.size, 6, none⟩ = some (.float .f64 e3) := cell_of_row _ _ _ _ _ (0, 0) HXx.r0
                          have z0_7 : wx.cell? ⟨w.heap.size, 7, none⟩ = some (.slice A cs.length cap) := cell_of_row _ _ _ _ _ (0, 0) HXx.r0
                          have z1_0 : wx.cell? ⟨w.heap.size + 1, 0, none⟩ = some (.int .i64 sd) := cell_of_row _ _ _ _ _ (0, 0) HXx.r1
                          have z1_1 : wx.cell? ⟨w.heap.size + 1, 1, none⟩ = some (.int .i64 so) := cell_of_row _ _ _ _ _ (0, 0) HXx.r1
                          have z1_2 : wx.cell? ⟨w.heap.size + 1, 2, none⟩ = some (.int .i64 d1) := cell_of_row _ _ _ _ _ (0, 0) HXx.r1
                          have z1_3 : wx.cell? ⟨w.heap.size + 1, 3, none⟩ = some (.int .i64 d2) := cell_of_row _ _ _ _ _ (0, 0) HXx.r1
                          have z1_4 : wx.cell? ⟨w.heap.size + 1, 4, none⟩ = some (.int .i64 d3) := cell_of_row _ _ _ _ _ (0, 0) HXx.r1
                          have z1_5 : wx.cell? ⟨w.heap.size + 1, 5, none⟩ = some (.bool d4) := cell_of_row _ _ _ _ _ (0, 0) HXx.r1
                          have z1_6 : wx.cell? ⟨w.heap.size + 1, 6, none⟩ = some (.int .i64 d5) := cell_of_row _ _ _ _ _ (0, 0) HXx.r1
                          have z1_7 : wx.cell? ⟨w.heap.size + 1, 7, none⟩ = some (.int .i64 m1) := cell_of_row _ _ _ _ _ (0, 0) HXx.r1
                          have z1_8 : wx.cell? ⟨w.heap.size + 1, 8, none⟩ = some (.int .i64 m2) := cell_of_row _ _ _ _ _ (0, 0) HXx.r1
                          have z1_9 : wx.cell? ⟨w.heap.size + 1, 9, none⟩ = some (.int .i64 m3) := cell_of_row _ _ _ _ _ (0, 0) HXx.r1
                          have z1_10 : wx.cell? ⟨w.heap.size + 1, 10, none⟩ = some (.int .u32 ca) := cell_of_row _ _ _ _ _ (0, 0) HXx.r1
                          have z1_11 : wx.cell? ⟨w.heap.size + 1, 11, none⟩ = some (.int .i64 sh) := cell_of_row _ _ _ _ _ (0, 0) HXx.r1
                          have z1_12 : wx.cell? ⟨w.heap.size + 1, 12, none⟩ = some (.int .i64 il) := cell_of_row _ _ _ _ _ (0, 0) HXx.r1
                          have z1_13 : wx.cell? ⟨w.heap.size + 1, 13, none⟩ = some (.bool false) := cell_of_row _ _ _ _ _ (0, 0) HXx.r1
                          first
                            | (go_simp
                               first
                                | (go_at_call 28; (with_reducible refine (F1.out _).mono ?_); rintro e x1 ⟨rfl, hb⟩; exact hK _ (hx.trans (hb.mono hx.size)))
                                | (go_at_call 29; (with_reducible refine (F2.out _).mono ?_); rintro e x1 ⟨rfl, hb⟩; exact hK _ (hx.trans (hb.mono hx.size)))
                                | (go_at_call 30; (with_reducible refine (F3.out _ HXx.below).mono ?_); rintro e x1 ⟨rfl, hb⟩; exact hK _ (hx.trans (hb.mono hx.size)))
                                | (go_at_call 31; (with_reducible refine (F4.out _).mono ?_); rintro e x1 ⟨rfl, hb⟩; exact hK _ (hx.trans (hb.mono hx.size)))
                                | (go_at_call 32; (with_reducible refine (F5.out _).mono ?_); rintro e x1 ⟨rfl, hb⟩; exact hK _ (hx.trans (hb.mono hx.size)))
                                | (go_at_call 33; (with_reducible refine (FA.out _).mono ?_); rintro e x1 ⟨rfl, hb⟩; exact hK _ (hx.trans (hb.mono hx.size)))
                                | (go_at_K; exact hK _ hx)))
                         rfl)
                      | (refine Bag.walk_no (by rfl) ?_; simp only [Act.put, List.setIfInBounds_toArray, List.set_cons_succ, List.set_cons_zero]))
                  refine Bag.walk_nil (fun w2 hb2 => ?_)
                  have HB2 := Lib.hid (HB1.out.next hb2)
                  clear c0_0 c0_1 c0_2 c0_3 c0_4 c0_5 c0_6 c0_7 c1_0 c1_1 c1_2 c1_3 c1_4 c1_5 c1_6 c1_7 c1_8 c1_9 c1_10 c1_11 c1_12 c1_13 hb2 HB1
                  go_wp2_with fail
                  go_ret
                  exact ⟨by simp, HB2.out.below⟩
                · cases q7
                  · have HB0 := Lib.hid (bxs2 w (.cells #[.int .i64 f, .int .i64 d, .int .i64 r, .int .i64 pk, .float .f64 e1, .float .f64 e2, .float .f64 e3, .slice A cs.length cap] 27) (.cells #[.int .i64 sd, .int .i64 so, .int .i64 d1, .int .i64 d2, .int .i64 d3, .bool d4, .int .i64 d5, .int .i64 m1, .int .i64 m2, .int .i64 m3, .int .u32 ca, .int .i64 sh, .int .i64 il, .bool false] 38))
                    go_enter Tryd.func14, Tryd.ntmps14
                    go_wp2_with fail
                    refine (FV.out _ HB0.out.below).mono ?_
                    rintro e w1 ⟨rfl, hb1⟩
                    have HB1 := Lib.hid (HB0.out.next hb1)
                    clear hb1 HB0
                    have c0_0 : w1.cell? ⟨w.heap.size, 0, none⟩ = some (.int .i64 f) := cell_of_row _ _ _ _ _ (0, 0) HB1.out.r0
                    have c0_1 : w1.cell? ⟨w.heap.size, 1, none⟩ = some (.int .i64 d) := cell_of_row _ _ _ _ _ (0, 0) HB1.out.r0
                    have c0_2 : w1.cell? ⟨w.heap.size, 2, none⟩ = some (.int .i64 r) := cell_of_row _ _ _ _ _ (0, 0) HB1.out.r0
                    have c0_3 : w1.cell? ⟨w.heap.size, 3, none⟩ = some (.int .i64 pk) := cell_of_row _ _ _ _ _ (0, 0) HB1.out.r0
                    have c0_4 : w1.cell? ⟨w.heap.size, 4, none⟩ = some (.float .f64 e1) := cell_of_row _ _ _ _ _ (0, 0) HB1.out.r0
                    have c0_5 : w1.cell? ⟨w.heap.size, 5, none⟩ = some (.float .f64 e2) := cell_of_row _ _ _ _ _ (0, 0) HB1.out.r0
                    have c0_6 : w1.cell? ⟨w.heap.size, 6, none⟩ = some (.float .f64 e3) := cell_of_row _ _ _ _ _ (0, 0) HB1.out.r0
                    have c0_7 : w1.cell? ⟨w.heap.size, 7, none⟩ = some (.slice A cs.length cap) := cell_of_row _ _ _ _ _ (0, 0) HB1.out.r0
                    have c1_0 : w1.cell? ⟨w.heap.size + 1, 0, none⟩ = some (.int .i64 sd) := cell_of_row _ _ _ _ _ (0, 0) HB1.out.r1
                    have c1_1 : w1.cell? ⟨w.heap.size + 1, 1, none⟩ = some (.int .i64 so) := cell_of_row _ _ _ _ _ (0, 0) HB1.out.r1
                    have c1_2 : w1.cell? ⟨w.heap.size + 1, 2, none⟩ = some (.int .i64 d1) := cell_of_row _ _ _ _ _ (0, 0) HB1.out.r1
                    have c1_3 : w1.cell? ⟨w.heap.size + 1, 3, none⟩ = some (.int .i64 d2) := cell_of_row _ _ _ _ _ (0, 0) HB1.out.r1
                    have c1_4 : w1.cell? ⟨w.heap.size + 1, 4, none⟩ = some (.int .i64 d3) := cell_of_row _ _ _ _ _ (0, 0) HB1.out.r1
                    have c1_5 : w1.cell? ⟨w.heap.size + 1, 5, none⟩ = some (.bool d4) := cell_of_row _ _ _ _ _ (0, 0) HB1.out.r1
                    have c1_6 : w1.cell? ⟨w.heap.size + 1, 6, none⟩ = some (.int .i64 d5) := cell_of_row _ _ _ _ _ (0, 0) HB1.out.r1
                    have c1_7 : w1.cell? ⟨w.heap.size + 1, 7, none⟩ = some (.int .i64 m1) := cell_of_row _ _ _ _ _ (0, 0) HB1.out.r1
                    have c1_8 : w1.cell? ⟨w.heap.size + 1, 8, none⟩ = some (.int .i64 m2) := cell_of_row _ _ _ _ _ (0, 0) HB1.out.r1
                    have c1_9 : w1.cell? ⟨w.heap.size + 1, 9, none⟩ = some (.int .i64 m3) := cell_of_row _ _ _ _ _ (0, 0) HB1.out.r1
                    have c1_10 : w1.cell? ⟨w.heap.size + 1, 10, none⟩ = some (.int .u32 ca) := cell_of_row _ _ _ _ _ (0, 0) HB1.out.r1
                    have c1_11 : w1.cell? ⟨w.heap.size + 1, 11, none⟩ = some (.int .i64 sh) := cell_of_row _ _ _ _ _ (0, 0) HB1.out.r1
                    have c1_12 : w1.cell? ⟨w.heap.size + 1, 12, none⟩ = some (.int .i64 il) := cell_of_row _ _ _ _ _ (0, 0) HB1.out.r1
                    have c1_13 : w1.cell? ⟨w.heap.size + 1, 13, none⟩ = some (.bool false) := cell_of_row _ _ _ _ _ (0, 0) HB1.out.r1
                    go_wp2_with fail
                    refine Bag.region (fun wx => Below w1.heap.size w1 wx) (by kernel_rfl) (by kernel_rfl) (Below.refl _ _).drew ?_
                    iterate 43 (first
                        | (apply Bag.walk_yes (by rfl)
                           (intro wx hx K hK
                            have HXx := HB1.out.next hx
                            have z0_0 : wx.cell? ⟨w.heap.size, 0, none⟩ = some (.int .i64 f) := cell_of_row _ _ _ _ _ (0, 0) HXx.r0
                            have z0_1 : wx.cell? ⟨w.heap.size, 1, none⟩ = some (.int .i64 d) := cell_of_row _ _ _ _ _ (0, 0) HXx.r0
                            have z0_2 : wx.cell? ⟨w.heap.size, 2, none⟩ = some (.int .i64 r) := cell_of_row _ _ _ _ _ (0, 0) HXx.r0
                            have z0_3 : wx.cell? ⟨w.heap.size, 3, none⟩ = some (.int .i64 pk) := cell_of_row _ _ _ _ _ (0, 0) HXx.r0
                            have z0_4 : wx.cell? ⟨w.heap.size, 4, none⟩ = some (.float .f64 e1) := cell_of_row _ _ _ _ _ (0, 0) HXx.r0
                            have z0_5 : wx.cell? ⟨w.heap.size, 5, none⟩ = some (.float .f64 e2) := cell_of_row _ _ _ _ _ (0, 0) HXx.r0
                            have z0_6 : wx.cell? ⟨w.heap.size, 6, none⟩ = some (.float .f64 e3) := cell_of_row _ _ _ _ _ (0, 0) HXx.r0
                            have z0_7 : wx.cell? ⟨w.heap.size, 7, none⟩ = some (.slice A cs.length cap) := cell_of_row _ _ _ _ _ (0, 0) HXx.r0
                            have z1_0 : wx.cell? ⟨w.heap.size + 1, 0, none⟩ = some (.int .i64 sd) := cell_of_row _ _ _ _ _ (0, 0) HXx.r1
                            have z1_1 : wx.cell? ⟨w.heap.size + 1, 1, none⟩ = some (.int .i64 so) := cell_of_row _ _ _ _ _ (0, 0) HXx.r1
                            have z1_2 : wx.cell? ⟨w.heap.size + 1, 2, none⟩ = some (.int .i64 d1) := cell_of_row _ _ _ _ _ (0, 0) HXx.r1
                            have z1_3 : wx.cell? ⟨w.heap.size + 1, 3, none⟩ = some (.int .i64 d2) := cell_of_row _ _ _ _ _ (0, 0) HXx.r1
                            have z1_4 : wx.cell? ⟨w.heap.size + 1, 4, none⟩ = some (.int .i64 d3) := cell_of_row _ _ _ _ _ (0, 0) HXx.r1
                            have z1_5 : wx.cell? ⟨w.heap.size + 1, 5, none⟩ = some (.bool d4) := cell_of_row _ _ _ _ _ (0, 0) HXx.r1
                            have z1_6 : wx.cell? ⟨w.heap.size + 1, 6, none⟩ = some (.int .i64 d5) := cell_of_row _ _ _ _ _ (0, 0) HXx.r1
                            have z1_7 : wx.cell? ⟨w.heap.size + 1, 7, none⟩ = some (.int .i64 m1) := cell_of_row _ _ _ _ _ (0, 0) HXx.r1
                            have z1_8 : wx.cell? ⟨w.heap.size + 1, 8, none⟩ = some (.int .i64 m2) := cell_of_row _ _ _ _ _ (0, 0) HXx.r1
                            have z1_9 : wx.cell? ⟨w.heap.size + 1, 9, none⟩ = some (.int .i64 m3) := cell_of_row _ _ _ _ _ (0, 0) HXx.r1
                            have z1_10 : wx.cell? ⟨w.heap.size + 1, 10, none⟩ = some (.int .u32 ca) := cell_of_row _ _ _ _ _ (0, 0) HXx.r1
                            have z1_11 : wx.cell? ⟨w.heap.size + 1, 11, none⟩ = some (.int .i64 sh) := cell_of_row _ _ _ _ _ (0, 0) HXx.r1
                            have z1_12 : wx.cell? ⟨w.heap.size + 1, 12, none⟩ = some (.int .i64 il) := cell_of_row _ _ _ _ _ (0, 0) HXx.r1
                            have z1_13 : wx.cell? ⟨w.heap.size + 1, 13, none⟩ = some (.bool false) := cell_of_row _ _ _ _ _ (0, 0) HXx.r1
                            first
                              | (go_simp
                                 first
                                  | (go_at_call 28; (with_reducible refine (F1.out _).mono ?_); rintro e x1 ⟨rfl, hb⟩; exact hK _ (hx.trans (hb.mono hx.size)))
                                  | (go_at_call 29; (with_reducible refine (F2.out _).mono ?_); rintro e x1 ⟨rfl, hb⟩; exact hK _ (hx.trans (hb.mono hx.size)))
                                  | (go_at_call 30; (with_reducible refine (F3.out _ HXx.below).mono ?_); rintro e x1 ⟨rfl, hb⟩; exact hK _ (hx.trans (hb.mono hx.size)))
                                  | (go_at_call 31; (with_reducible refine (F4.out _).mono ?_); rintro e x1 ⟨rfl, hb⟩; exact hK _ (hx.trans (hb.mono hx.size)))
                                  | (go_at_call 32; (with_reducible refine (F5.out _).mono ?_); rintro e x1 ⟨rfl, hb⟩; exact hK _ (hx.trans (hb.mono hx.size)))
                                  | (go_at_call 33; (with_reducible refine (FA.out _).mono ?_); rintro e x1 ⟨rfl, hb⟩; exact hK _ (hx.trans (hb.mono hx.size)))
                                  | (go_at_call 34; (with_reducible refine (F7.out _).mono ?_); rintro e x1 ⟨rfl, hb⟩; exact hK _ (hx.trans (hb.mono hx.size)))
                                  | (go_at_K; exact hK _ hx)))
                           rfl)
                        | (refine Bag.walk_no (by rfl) ?_; simp only [Act.put, List.setIfInBounds_toArray, List.set_cons_succ, List.set_cons_zero]))
                    refine Bag.walk_nil (fun w2 hb2 => ?_)
                    have HB2 := Lib.hid (HB1.out.next hb2)
                    clear c0_0 c0_1 c0_2 c0_3 c0_4 c0_5 c0_6 c0_7 c1_0 c1_1 c1_2 c1_3 c1_4 c1_5 c1_6 c1_7 c1_8 c1_9 c1_10 c1_11 c1_12 c1_13 hb2 HB1
                    go_wp2_with fail
                    go_ret
                    exact ⟨by simp, HB2.out.below⟩
                  · have HB0 := Lib.hid (bxs2 w (.cells #[.int .i64 f, .int .i64 d, .int .i64 r, .int .i64 pk, .float .f64 e1, .float .f64 e2, .float .f64 e3, .slice A cs.length cap] 27) (.cells #[.int .i64 sd, .int .i64 so, .int .i64 d1, .int .i64 d2, .int .i64 d3, .bool d4, .int .i64 d5, .int .i64 m1, .int .i64 m2, .int .i64 m3, .int .u32 ca, .int .i64 sh, .int .i64 il, .bool false] 38))
                    go_enter Tryd.func14, Tryd.ntmps14
                    go_wp2_with fail
                    refine (FV.out _ HB0.out.below).mono ?_
                    rintro e w1 ⟨rfl, hb1⟩
                    have HB1 := Lib.hid (HB0.out.next hb1)
                    clear hb1 HB0
                    have c0_0 : w1.cell? ⟨w.heap.size, 0, none⟩ = some (.int .i64 f) := cell_of_row _ _ _ _ _ (0, 0) HB1.out.r0
                    have c0_1 : w1.cell? ⟨w.heap.size, 1, none⟩ = some (.int .i64 d) := cell_of_row _ _ _ _ _ (0, 0) HB1.out.r0
                    have c0_2 : w1.cell? ⟨w.heap.size, 2, none⟩ = some (.int .i64 r) := cell_of_row _ _ _ _ _ (0, 0) HB1.out.r0
                    have c0_3 : w1.cell? ⟨w.heap.size, 3, none⟩ = some (.int .i64 pk) := cell_of_row _ _ _ _ _ (0, 0) HB1.out.r0
                    have c0_4 : w1.cell? ⟨w.heap.size, 4, none⟩ = some (.float .f64 e1) := cell_of_row _ _ _ _ _ (0, 0) HB1.out.r0
                    have c0_5 : w1.cell? ⟨w.heap.size, 5, none⟩ = some (.float .f64 e2) := cell_of_row _ _ _ _ _ (0, 0) HB1.out.r0
                    have c0_6 : w1.cell? ⟨w.heap.size, 6, none⟩ = some (.float .f64 e3) := cell_of_row _ _ _ _ _ (0, 0) HB1.out.r0
                    have c0_7 : w1.cell? ⟨w.heap.size, 7, none⟩ = some (.slice A cs.length cap) := cell_of_row _ _ _ _ _ (0, 0) HB1.out.r0
                    have c1_0 : w1.cell? ⟨w.heap.size + 1, 0, none⟩ = some (.int .i64 sd) := cell_of_row _ _ _ _ _ (0, 0) HB1.out.r1
                    have c1_1 : w1.cell? ⟨w.heap.size + 1, 1, none⟩ = some (.int .i64 so) := cell_of_row _ _ _ _ _ (0, 0) HB1.out.r1
                    have c1_2 : w1.cell? ⟨w.heap.size + 1, 2, none⟩ = some (.int .i64 d1) := cell_of_row _ _ _ _ _ (0, 0) HB1.out.r1
                    have c1_3 : w1.cell? ⟨w.heap.size + 1, 3, none⟩ = some (.int .i64 d2) := cell_of_row _ _ _ _ _ (0, 0) HB1.out.r1
                    have c1_4 : w1.cell? ⟨w.heap.size + 1, 4, none⟩ = some (.int .i64 d3) := cell_of_row _ _ _ _ _ (0, 0) HB1.out.r1
                    have c1_5 : w1.cell? ⟨w.heap.size + 1, 5, none⟩ = some (.bool d4) := cell_of_row _ _ _ _ _ (0, 0) HB1.out.r1
                    have c1_6 : w1.cell? ⟨w.heap.size + 1, 6, none⟩ = some (.int .i64 d5) := cell_of_row _ _ _ _ _ (0, 0) HB1.out.r1
                    have c1_7 : w1.cell? ⟨w.heap.size + 1, 7, none⟩ = some (.int .i64 m1) := cell_of_row _ _ _ _ _ (0, 0) HB1.out.r1
                    have c1_8 : w1.cell? ⟨w.heap.size + 1, 8, none⟩ = some (.int .i64 m2) := cell_of_row _ _ _ _ _ (0, 0) HB1.out.r1
                    have c1_9 : w1.cell? ⟨w.heap.size + 1, 9, none⟩ = some (.int .i64 m3) := cell_of_row _ _ _ _ _ (0, 0) HB1.out.r1
                    have c1_10 : w1.cell? ⟨w.heap.size + 1, 10, none⟩ = some (.int .u32 ca) := cell_of_row _ _ _ _ _ (0, 0) HB1.out.r1
                    have c1_11 : w1.cell? ⟨w.heap.size + 1, 11, none⟩ = some (.int .i64 sh) := cell_of_row _ _ _ _ _ (0, 0) HB1.out.r1
                    have c1_12 : w1.cell? ⟨w.heap.size + 1, 12, none⟩ = some (.int .i64 il) := cell_of_row _ _ _ _ _ (0, 0) HB1.out.r1
                    have c1_13 : w1.cell? ⟨w.heap.size + 1, 13, none⟩ = some (.bool false) := cell_of_row _ _ _ _ _ (0, 0) HB1.out.r1
                    go_wp2_with fail
                    refine Bag.region (fun wx => Below w1.heap.size w1 wx) (by kernel_rfl) (by kernel_rfl) (Below.refl _ _).drew ?_
                    iterate 43 (first
                        | (apply Bag.walk_yes (by rfl)
                           (intro wx hx K hK
                            have HXx := HB1.out.next hx
                            have z0_0 : wx.cell? ⟨w.heap.size, 0, none⟩ = some (.int .i64 f) := cell_of_row _ _ _ _ _ (0, 0) HXx.r0
                            have z0_1 : wx.cell? ⟨w.heap.size, 1, none⟩ = some (.int .i64 d) := cell_of_row _ _ _ _ _ (0, 0) HXx.r0
                            have z0_2 : wx.cell? ⟨w.heap.size, 2, none⟩ = some (.int .i64 r) := cell_of_row _ _ _ _ _ (0, 0) HXx.r0
                            have z0_3 : wx.cell? ⟨w.heap.size, 3, none⟩ = some (.int .i64 pk) := cell_of_row _ _ _ _ _ (0, 0) HXx.r0
                            have z0_4 : wx.cell? ⟨w.heap.size, 4, none⟩ = some (.float .f64 e1) := cell_of_row _ _ _ _ _ (0, 0) HXx.r0
                            have z0_5 : wx.cell? ⟨w.heap.size, 5, none⟩ = some (.float .f64 e2) := cell_of_row _ _ _ _ _ (0, 0) HXx.r0
                            have z0_6 : wx.cell? ⟨w.heap.size, 6, none⟩ = some (.float .f64 e3) := cell_of_row _ _ _ _ _ (0, 0) HXx.r0
                            have z0_7 : wx.cell? ⟨w.heap.size, 7, none⟩ = some (.slice A cs.length cap) := cell_of_row _ _ _ _ _ (0, 0) HXx.r0
                            have z1_0 : wx.cell? ⟨w.heap.size + 1, 0, none⟩ = some (.int .i64 sd) := cell_of_row _ _ _ _ _ (0, 0) HXx.r1
                            have z1_1 : wx.cell? ⟨w.heap.size + 1, 1, none⟩ = some (.int .i64 so) := cell_of_row _ _ _ _ _ (0, 0) HXx.r1
                            have z1_2 : wx.cell? ⟨w.heap.size + 1, 2, none⟩ = some (.int .i64 d1) := cell_of_row _ _ _ _ _ (0, 0) HXx.r1
                            have z1_3 : wx.cell? ⟨w.heap.size + 1, 3, none⟩ = some (.int .i64 d2) := cell_of_row _ _ _ _ _ (0, 0) HXx.r1
                            have z1_4 : wx.cell? ⟨w.heap.size + 1, 4, none⟩ = some (.int .i64 d3) := cell_of_row _ _ _ _ _ (0, 0) HXx.r1
                            have z1_5 : wx.cell? ⟨w.heap.size + 1, 5, none⟩ = some (.bool d4) := cell_of_row _ _ _ _ _ (0, 0) HXx.r1
                            have z1_6 : wx.cell? ⟨w.heap.size + 1, 6, none⟩ = some (.int .i64 d5) := cell_of_row _ _ _ _ _ (0, 0) HXx.r1
                            have z1_7 : wx.cell? ⟨w.heap.size + 1, 7, none⟩ = some (.int .i64 m1) := cell_of_row _ _ _ _ _ (0, 0) HXx.r1
                            have z1_8 : wx.cell? ⟨w.heap.size + 1, 8, none⟩ = some (.int .i64 m2) := cell_of_row _ _ _ _ _ (0, 0) HXx.r1
                            have z1_9 : wx.cell? ⟨w.heap.size + 1, 9, none⟩ = some (.int .i64 m3) := cell_of_row _ _ _ _ _ (0, 0) HXx.r1
                            have z1_10 : wx.cell? ⟨w.heap.size + 1, 10, none⟩ = some (.int .u32 ca) := cell_of_row _ _ _ _ _ (0, 0) HXx.r1
                            have z1_11 : wx.cell? ⟨w.heap.size + 1, 11, none⟩ = some (.int .i64 sh) := cell_of_row _ _ _ _ _ (0, 0) HXx.r1
                            have z1_12 : wx.cell? ⟨w.heap.size + 1, 12, none⟩ = some (.int .i64 il) := cell_of_row _ _ _ _ _ (0, 0) HXx.r1
                            have z1_13 : wx.cell? ⟨w.heap.size + 1, 13, none⟩ = some (.bool false) := cell_of_row _ _ _ _ _ (0, 0) HXx.r1
                            first
                              | (go_simp
                                 first
                                  | (go_at_call 28; (with_reducible refine (F1.out _).mono ?_); rintro e x1 ⟨rfl, hb⟩; exact hK _ (hx.trans (hb.mono hx.size)))
                                  | (go_at_call 29; (with_reducible refine (F2.out _).mono ?_); rintro e x1 ⟨rfl, hb⟩; exact hK _ (hx.trans (hb.mono hx.size)))
                                  | (go_at_call 30; (with_reducible refine (F3.out _ HXx.below).mono ?_); rintro e x1 ⟨rfl, hb⟩; exact hK _ (hx.trans (hb.mono hx.size)))
                                  | (go_at_call 31; (with_reducible refine (F4.out _).mono ?_); rintro e x1 ⟨rfl, hb⟩; exact hK _ (hx.trans (hb.mono hx.size)))
                                  | (go_at_call 32; (with_reducible refine (F5.out _).mono ?_); rintro e x1 ⟨rfl, hb⟩; exact hK _ (hx.trans (hb.mono hx.size)))
                                  | (go_at_call 33; (with_reducible refine (FA.out _).mono ?_); rintro e x1 ⟨rfl, hb⟩; exact hK _ (hx.trans (hb.mono hx.size)))
                                  | (go_at_call 34; (with_reducible refine (F7.out _).mono ?_); rintro e x1 ⟨rfl, hb⟩; exact hK _ (hx.trans (hb.mono hx.size)))
                                  | (go_at_call 34; (with_reducible refine (F8.out _).mono ?_); rintro e x1 ⟨rfl, hb⟩; exact hK _ (hx.trans (hb.mono hx.size)))
                                  | (go_at_K; exact hK _ hx)))
                           rfl)
                        | (refine Bag.walk_no (by rfl) ?_; simp only [Act.put, List.setIfInBounds_toArray, List.set_cons_succ, List.set_cons_zero]))
                    refine Bag.walk_nil (fun w2 hb2 => ?_)
                    have HB2 := Lib.hid (HB1.out.next hb2)
                    clear c0_0 c0_1 c0_2 c0_3 c0_4 c0_5 c0_6 c0_7 c1_0 c1_1 c1_2 c1_3 c1_4 c1_5 c1_6 c1_7 c1_8 c1_9 c1_10 c1_11 c1_12 c1_13 hb2 HB1
                    go_wp2_with fail
                    go_ret
                    exact ⟨by simp, HB2.out.below⟩
            · cases q6
              · have HB0 := Lib.hid (bxs2 w (.cells #[.int .i64 f, .int .i64 d, .int .i64 r, .int .i64 pk, .float .f64 e1, .float .f64 e2, .float .f64 e3, .slice A cs.length cap] 27) (.cells #[.int .i64 sd, .int .i64 so, .int .i64 d1, .int .i64 d2, .int .i64 d3, .bool d4, .int .i64 d5, .int .i64 m1, .int .i64 m2, .int .i64 m3, .int .u32 ca, .int .i64 sh, .int .i64 il, .bool false] 38))
                go_enter Tryd.func14, Tryd.ntmps14
                go_wp2_with fail
                refine (FV.out _ HB0.out.below).mono ?_
                rintro e w1 ⟨rfl, hb1⟩
                have HB1 := Lib.hid (HB0.out.next hb1)
                clear hb1 HB0
                have c0_0 : w1.cell? ⟨w.heap.size, 0, none⟩ = some (.int .i64 f) := cell_of_row _ _ _ _ _ (0, 0) HB1.out.r0
                have c0_1 : w1.cell? ⟨w.heap.size, 1, none⟩ = some (.int .i64 d) := cell_of_row _ _ _ _ _ (0, 0) HB1.out.r0
                have c0_2 : w1.cell? ⟨w.heap.size, 2, none⟩ = some (.int .i64 r) := cell_of_row _ _ _ _ _ (0, 0) HB1.out.r0
                have c0_3 : w1.cell? ⟨w.heap.size, 3, none⟩ = some (.int .i64 pk) := cell_of_row _ _ _ _ _ (0, 0) HB1.out.r0
                have c0_4 : w1.cell? ⟨w.heap.size, 4, none⟩ = some (.float .f64 e1) := cell_of_row _ _ _ _ _ (0, 0) HB1.out.r0
                have c0_5 : w1.cell? ⟨w.heap.size, 5, none⟩ = some (.float .f64 e2) := cell_of_row _ _ _ _ _ (0, 0) HB1.out.r0
                have c0_6 : w1.cell? ⟨w.heap.size, 6, none⟩ = some (.float .f64 e3) := cell_of_row _ _ _ _ _ (0, 0) HB1.out.r0
                have c0_7 : w1.cell? ⟨w.heap.size, 7, none⟩ = some (.slice A cs.length cap) := cell_of_row _ _ _ _ _ (0, 0) HB1.out.r0
                have c1_0 : w1.cell? ⟨w.heap.size + 1, 0, none⟩ = some (.int .i64 sd) := cell_of_row _ _ _ _ _ (0, 0) HB1.out.r1
                have c1_1 : w1.cell? ⟨w.heap.size + 1, 1, none⟩ = some (.int .i64 so) := cell_of_row _ _ _ _ _ (0, 0) HB1.out.r1
                have c1_2 : w1.cell? ⟨w.heap.size + 1, 2, none⟩ = some (.int .i64 d1) := cell_of_row _ _ _ _ _ (0, 0) HB1.out.r1
                have c1_3 : w1.cell? ⟨w.heap.size + 1, 3, none⟩ = some (.int .i64 d2) := cell_of_row _ _ _ _ _ (0, 0) HB1.out.r1
                have c1_4 : w1.cell? ⟨w.heap.size + 1, 4, none⟩ = some (.int .i64 d3) := cell_of_row _ _ _ _ _ (0, 0) HB1.out.r1
                have c1_5 : w1.cell? ⟨w.heap.size + 1, 5, none⟩ = some (.bool d4) := cell_of_row _ _ _ _ _ (0, 0) HB1.out.r1
                have c1_6 : w1.cell? ⟨w.heap.size + 1, 6, none⟩ = some (.int .i64 d5) := cell_of_row _ _ _ _ _ (0, 0) HB1.out.r1
                have c1_7 : w1.cell? ⟨w.heap.size + 1, 7, none⟩ = some (.int .i64 m1) := cell_of_row _ _ _ _ _ (0, 0) HB1.out.r1
                have c1_8 : w1.cell? ⟨w.heap.size + 1, 8, none⟩ = some (.int .i64 m2) := cell_of_row _ _ _ _ _ (0, 0) HB1.out.r1
                have c1_9 : w1.cell? ⟨w.heap.size + 1, 9, none⟩ = some (.int .i64 m3) := cell_of_row _ _ _ _ _ (0, 0) HB1.out.r1
                have c1_10 : w1.cell? ⟨w.heap.size + 1, 10, none⟩ = some (.int .u32 ca) := cell_of_row _ _ _ _ _ (0, 0) HB1.out.r1
                have c1_11 : w1.cell? ⟨w.heap.size + 1, 11, none⟩ = some (.int .i64 sh) := cell_of_row _ _ _ _ _ (0, 0) HB1.out.r1
                have c1_12 : w1.cell? ⟨w.heap.size + 1, 12, none⟩ = some (.int .i64 il) := cell_of_row _ _ _ _ _ (0, 0) HB1.out.r1
                have c1_13 : w1.cell? ⟨w.heap.size + 1, 13, none⟩ = some (.bool false) := cell_of_row _ _ _ _ _ (0, 0) HB1.out.r1
                go_wp2_with fail
                refine Bag.region (fun wx => Below w1.heap.size w1 wx) (by kernel_rfl) (by kernel_rfl) (Below.refl _ _).drew ?_
                iterate 43 (first
                    | (apply Bag.walk_yes (by rfl)
                       (intro wx hx K hK
                        have HXx := HB1.out.next hx
                        have z0_0 : wx.cell? ⟨w.heap.size, 0, none⟩ = some (.int .i64 f) := cell_of_row _ _ _ _ _ (0, 0) HXx.r0
                        have z0_1 : wx.cell? ⟨w.heap.size, 1, none⟩ = some (.int .i64 d) := cell_of_row _ _ _ _ _ (0, 0) HXx.r0
                        have z0_2 : wx.cell? ⟨w.heap.size, 2, none⟩ = some (.int .i64 r) := cell_of_row _ _ _ _ _ (0, 0) HXx.r0
                        have z0_3 : wx.cell? ⟨w.heap.size, 3, none⟩ = some (.int .i64 pk) := cell_of_row _ _ _ _ _ (0, 0) HXx.r0
                        have z0_4 : wx.cell? ⟨w.heap.size, 4, none⟩ = some (.float .f64 e1) := cell_of_row _ _ _ _ _ (0, 0) HXx.r0
                        have z0_5 : wx.cell? ⟨w.heap.size, 5, none⟩ = some (.float .f64 e2) := cell_of_row _ _ _ _ _ (0, 0) HXx.r0
                        have z0_6 : wx.cell? ⟨w.heap.size, 6, none⟩ = some (.float .f64 e3) := cell_of_row _ _ _ _ _ (0, 0) HXx.r0
                        have z0_7 : wx.cell? ⟨w.heap.size, 7, none⟩ = some (.slice A cs.length cap) := cell_of_row _ _ _ _ _ (0, 0) HXx.r0
                        have z1_0 : wx.cell? ⟨w.heap.size + 1, 0, none⟩ = some (.int .i64 sd) := cell_of_row _ _ _ _ _ (0, 0) HXx.r1
                        have z1_1 : wx.cell? ⟨w.heap.size + 1, 1, none⟩ = some (.int .i64 so) := cell_of_row _ _ _ _ _ (0, 0) HXx.r1
                        have z1_2 : wx.cell? ⟨w.heap.size + 1, 2, none⟩ = some (.int .i64 d1) := cell_of_row _ _ _ _ _ (0, 0) HXx.r1
                        have z1_3 : wx.cell? ⟨w.heap.size + 1, 3, none⟩ = some (.int .i64 d2) := cell_of_row _ _ _ _ _ (0, 0) HXx.r1
                        have z1_4 : wx.cell? ⟨w.heap.size + 1, 4, none⟩ = some (.int .i64 d3) := cell_of_row _ _ _ _ _ (0, 0) HXx.r1
                        have z1_5 : wx.cell? ⟨w.heap.size + 1, 5, none⟩ = some (.bool d4) := cell_of_row _ _ _ _ _ (0, 0) HXx.r1
                        have z1_6 : wx.cell? ⟨w.heap.size + 1, 6, none⟩ = some (.int .i64 d5) := cell_of_row _ _ _ _ _ (0, 0) HXx.r1
                        have z1_7 : wx.cell? ⟨w.heap.size + 1, 7, none⟩ = some (.int .i64 m1) := cell_of_row _ _ _ _ _ (0, 0) HXx.r1
                        have z1_8 : wx.cell? ⟨w.heap.size + 1, 8, none⟩ = some (.int .i64 m2) := cell_of_row _ _ _ _ _ (0, 0) HXx.r1
                        have z1_9 : wx.cell? ⟨w.heap.size + 1, 9, none⟩ = some (.int .i64 m3) := cell_of_row _ _ _ _ _ (0, 0) HXx.r1
                        have z1_10 : wx.cell? ⟨w.heap.size + 1, 10, none⟩ = some (.int .u32 ca) := cell_of_row _ _ _ _ _ (0, 0) HXx.r1
                        have z1_11 : wx.cell? ⟨w.heap.size + 1, 11, none⟩ = some (.int .i64 sh) := cell_of_row _ _ _ _ _ (0, 0) HXx.r1
                        have z1_12 : wx.cell? ⟨w.heap.size + 1, 12, none⟩ = some (.int .i64 il) := cell_of_row _ _ _ _ _ (0, 0) HXx.r1
                        have z1_13 : wx.cell? ⟨w.heap.size + 1, 13, none⟩ = some (.bool false) := cell_of_row _ _ _ _ _ (0, 0) HXx.r1
                        first
                          | (go_simp
                             first
                              | (go_at_call 28; (with_reducible refine (F1.out _).mono ?_); rintro e x1 ⟨rfl, hb⟩; exact hK _ (hx.trans (hb.mono hx.size)))
                              | (go_at_call 29; (with_reducible refine (F2.out _).mono ?_); rintro e x1 ⟨rfl, hb⟩; exact hK _ (hx.trans (hb.mono hx.size)))
                              | (go_at_call 30; (with_reducible refine (F3.out _ HXx.below).mono ?_); rintro e x1 ⟨rfl, hb⟩; exact hK _ (hx.trans (hb.mono hx.size)))
                              | (go_at_call 31; (with_reducible refine (F4.out _).mono ?_); rintro e x1 ⟨rfl, hb⟩; exact hK _ (hx.trans (hb.mono hx.size)))
                              | (go_at_call 33; (with_reducible refine (FA.out _).mono ?_); rintro e x1 ⟨rfl, hb⟩; exact hK _ (hx.trans (hb.mono hx.size)))
                              | (go_at_K; exact hK _ hx)))
                       rfl)
                    | (refine Bag.walk_no (by rfl) ?_; simp only [Act.put, List.setIfInBounds_toArray, List.set_cons_succ, List.set_cons_zero]))
                refine Bag.walk_nil (fun w2 hb2 => ?_)
                have HB2 := Lib.hid (HB1.out.next hb2)
                clear c0_0 c0_1 c0_2 c0_3 c0_4 c0_5 c0_6 c0_7 c1_0 c1_1 c1_2 c1_3 c1_4 c1_5 c1_6 c1_7 c1_8 c1_9 c1_10 c1_11 c1_12 c1_13 hb2 HB1
                go_wp2_with fail
                go_ret
                exact ⟨by simp, HB2.out.below⟩
              · cases q7
                · have HB0 := Lib.hid (bxs2 w (.cells #[.int .i64 f, .int .i64 d, .int .i64 r, .int .i64 pk, .float .f64 e1, .float .f64 e2, .float .f64 e3, .slice A cs.length cap] 27) (.cells #[.int .i64 sd, .int .i64 so, .int .i64 d1, .int .i64 d2, .int .i64 d3, .bool d4, .int .i64 d5, .int .i64 m1, .int .i64 m2, .int .i64 m3, .int .u32 ca, .int .i64 sh, .int .i64 il, .bool false] 38))
                  go_enter Tryd.func14, Tryd.ntmps14
                  go_wp2_with fail
                  refine (FV.out _ HB0.out.below).mono ?_
                  rintro e w1 ⟨rfl, hb1⟩
                  have HB1 := Lib.hid (HB0.out.next hb1)
                  clear hb1 HB0
                  have c0_0 : w1.cell? ⟨w.heap.size, 0, none⟩ = some (.int .i64 f) := cell_of_row _ _ _ _ _ (0, 0) HB1.out.r0
                  have c0_1 : w1.cell? ⟨w.heap.size, 1, none⟩ = some (.int .i64 d) := cell_of_row _ _ _ _ _ (0, 0) HB1.out.r0
                  have c0_2 : w1.cell? ⟨w.heap.size, 2, none⟩ = some (.int .i64 r) := cell_of_row _ _ _ _ _ (0, 0) HB1.out.r0
                  have c0_3 : w1.cell? ⟨w.heap.size, 3, none⟩ = some (.int .i64 pk) := cell_of_row _ _ _ _ _ (0, 0) HB1.out.r0
                  have c0_4 : w1.cell? ⟨w.heap.size, 4, none⟩ = some (.float .f64 e1) := cell_of_row _ _ _ _ _ (0, 0) HB1.out.r0
                  have c0_5 : w1.cell? ⟨w.heap.size, 5, none⟩ = some (.float .f64 e2) := cell_of_row _ _ _ _ _ (0, 0) HB1.out.r0
                  have c0_6 : w1.cell? ⟨w.heap.size, 6, none⟩ = some (.float .f64 e3) := cell_of_row _ _ _ _ _ (0, 0) HB1.out.r0
                  have c0_7 : w1.cell? ⟨w.heap.size, 7, none⟩ = some (.slice A cs.length cap) := cell_of_row _ _ _ _ _ (0, 0) HB1.out.r0
                  have c1_0 : w1.cell? ⟨w.heap.size + 1, 0, none⟩ = some (.int .i64 sd) := cell_of_row _ _ _ _ _ (0, 0) HB1.out.r1
                  have c1_1 : w1.cell? ⟨w.heap.size + 1, 1, none⟩ = some (.int .i64 so) := cell_of_row _ _ _ _ _ (0, 0) HB1.out.r1
                  have c1_2 : w1.cell? ⟨w.heap.size + 1, 2, none⟩ = some (.int .i64 d1) := cell_of_row _ _ _ _ _ (0, 0) HB1.out.r1
                  have c1_3 : w1.cell? ⟨w.heap.size + 1, 3, none⟩ = some (.int .i64 d2) := cell_of_row _ _ _ _ _ (0, 0) HB1.out.r1
                  have c1_4 : w1.cell? ⟨w.heap.size + 1, 4, none⟩ = some (.int .i64 d3) := cell_of_row _ _ _ _ _ (0, 0) HB1.out.r1
                  have c1_5 : w1.cell? ⟨w.heap.size + 1, 5, none⟩ = some (.bool d4) := cell_of_row _ _ _ _ _ (0, 0) HB1.out.r1
                  have c1_6 : w1.cell? ⟨w.heap.size + 1, 6, none⟩ = some (.int .i64 d5) := cell_of_row _ _ _ _ _ (0, 0) HB1.out.r1
                  have c1_7 : w1.cell? ⟨w.heap.size + 1, 7, none⟩ = some (.int .i64 m1) := cell_of_row _ _ _ _ _ (0, 0) HB1.out.r1
                  have c1_8 : w1.cell? ⟨w.heap.size + 1, 8, none⟩ = some (.int .i64 m2) := cell_of_row _ _ _ _ _ (0, 0) HB1.out.r1
                  have c1_9 : w1.cell? ⟨w.heap.size + 1, 9, none⟩ = some (.int .i64 m3) := cell_of_row _ _ _ _ _ (0, 0) HB1.out.r1
                  have c1_10 : w1.cell? ⟨w.heap.size + 1, 10, none⟩ = some (.int .u32 ca) := cell_of_row _ _ _ _ _ (0, 0) HB1.out.r1
                  have c1_11 : w1.cell? ⟨w.heap.size + 1, 11, none⟩ = some (.int .i64 sh) := cell_of_row _ _ _ _ _ (0, 0) HB1.out.r1
                  have c1_12 : w1.cell? ⟨w.heap.size + 1, 12, none⟩ = some (.int .i64 il) := cell_of_row _ _ _ _ _ (0, 0) HB1.out.r1
                  have c1_13 : w1.cell? ⟨w.heap.size + 1, 13, none⟩ = some (.bool false) := cell_of_row _ _ _ _ _ (0, 0) HB1.out.r1
                  go_wp2_with fail
                  refine Bag.region (fun wx => Below w1.heap.size w1 wx) (by kernel_rfl) (by kernel_rfl) (Below.refl _ _).drew ?_
                  iterate 43 (first
                      | (apply Bag.walk_yes (by rfl)
                         (intro wx hx K hK
                          have HXx := HB1.out.next hx
                          have z0_0 : wx.cell? ⟨w.heap.size, 0, none⟩ = some (.int .i64 f) := cell_of_row _ _ _ _ _ (0, 0) HXx.r0
                          have z0_1 : wx.cell? ⟨w.heap.size, 1, none⟩ = some (.int .i64 d) := cell_of_row _ _ _ _ _ (0, 0) HXx.r0
                          have z0_2 : wx.cell? ⟨w.heap.size, 2, none⟩ = some (.int .i64 r) := cell_of_row _ _ _ _ _ (0, 0) HXx.r0
                          have z0_3 : wx.cell? ⟨w.heap.size, 3, none⟩ = some (.int .i64 pk) := cell_of_row _ _ _ _ _ (0, 0) HXx.r0
                          have z0_4 : wx.cell? ⟨w.heap.size, 4, none⟩ = some (.float .f64 e1) := cell_of_row _ _ _ _ _ (0, 0) HXx.r0
                          have z0_5 : wx.cell? ⟨w.heap.size, 5, none⟩ = some (.float .f64 e2) := cell_of_row _ _ _ _ _ (0, 0) HXx.r0
                          have z0_6 : wx.cell? ⟨w.heap.size, 6, none⟩ = some (.float .f64 e3) := cell_of_row _ _ _ _ _ (0, 0) HXx.r0
                          have z0_7 : wx.cell? ⟨w.heap.size, 7, none⟩ = some (.slice A cs.length cap) := cell_of_row _ _ _ _ _ (0, 0) HXx.r0
                          have z1_0 : wx.cell? ⟨w.heap.size + 1, 0, none⟩ = some (.int .i64 sd) := cell_of_row _ _ _ _ _ (0, 0) HXx.r1
                          have z1_1 : wx.cell? ⟨w.heap.size + 1, 1, none⟩ = some (.int .i64 so) := cell_of_row _ _ _ _ _ (0, 0) HXx.r1
                          have z1_2 : wx.cell? ⟨w.heap.size + 1, 2, none⟩ = some (.int .i64 d1) := cell_of_row _ _ _ _ _ (0, 0) HXx.r1
                          have z1_3 : wx.cell? ⟨w.heap.size + 1, 3, none⟩ = some (.int .i64 d2) := cell_of_row _ _ _ _ _ (0, 0) HXx.r1
                          have z1_4 : wx.cell? ⟨w.heap.size + 1, 4, none⟩ = some (.int .i64 d3) := cell_of_row _ _ _ _ _ (0, 0) HXx.r1
                          have z1_5 : wx.cell? ⟨w.heap.size + 1, 5, none⟩ = some (.bool d4) := cell_of_row _ _ _ _ _ (0, 0) HXx.r1
                          have z1_6 : wx.cell? ⟨w.heap.size + 1, 6, none⟩ = some (.int .i64 d5) := cell_of_row _ _ _ _ _ (0, 0) HXx.r1
                          have z1_7 : wx.cell? ⟨w.heap.size + 1, 7, none⟩ = some (.int .i64 m1) := cell_of_row _ _ _ _ _ (0, 0) HXx.r1
                          have z1_8 : wx.cell? ⟨w.heap.size + 1, 8, none⟩ = some (.int .i64 m2) := cell_of_row _ _ _ _ _ (0, 0) HXx.r1
                          have z1_9 : wx.cell? ⟨w.heap.size + 1, 9, none⟩ = some (.int .i64 m3) := cell_of_row _ _ _ _ _ (0, 0) HXx.r1
                          have z1_10 : wx.cell? ⟨w.heap.size + 1, 10, none⟩ = some (.int .u32 ca) := cell_of_row _ _ _ _ _ (0, 0) HXx.r1
                          have z1_11 : wx.cell? ⟨w.heap.size + 1, 11, none⟩ = some (.int .i64 sh) := cell_of_row _ _ _ _ _ (0, 0) HXx.r1
                          have z1_12 : wx.cell? ⟨w.heap.size + 1, 12, none⟩ = some (.int .i64 il) := cell_of_row _ _ _ _ _ (0, 0) HXx.r1
                          have z1_13 : wx.cell? ⟨w.heap.size + 1, 13, none⟩ = some (.bool false) := cell_of_row _ _ _ _ _ (0, 0) HXx.r1
                          first
                            | (go_simp
                               first
                                | (go_at_call 28; (with_reducible refine (F1.out _).mono ?_); rintro e x1 ⟨rfl, hb⟩; exact hK _ (hx.trans (hb.mono hx.size)))
                                | (go_at_call 29; (with_reducible refine (F2.out _).mono ?_); rintro e x1 ⟨rfl, hb⟩; exact hK _ (hx.trans (hb.mono hx.size)))
                                | (go_at_call 30; (with_reducible refine (F3.out _ HXx.below).mono ?_); rintro e x1 ⟨rfl, hb⟩; exact hK _ (hx.trans (hb.mono hx.size)))
                                | (go_at_call 31; (with_reducible refine (F4.out _).mono ?_); rintro e x1 ⟨rfl, hb⟩; exact hK _ (hx.trans (hb.mono hx.size)))
                                | (go_at_call 33; (with_reducible refine (FA.out _).mono ?_); rintro e x1 ⟨rfl, hb⟩; exact hK _ (hx.trans (hb.mono hx.size)))
                                | (go_at_call 34; (with_reducible refine (F7.out _).mono ?_); rintro e x1 ⟨rfl, hb⟩; exact hK _ (hx.trans (hb.mono hx.size)))
                                | (go_at_K; exact hK _ hx)))
                         rfl)
                      | (refine Bag.walk_no (by rfl) ?_; simp only [Act.put, List.setIfInBounds_toArray, List.set_cons_succ, List.set_cons_zero]))
                  refine Bag.walk_nil (fun w2 hb2 => ?_)
                  have HB2 := Lib.hid (HB1.out.next hb2)
                  clear c0_0 c0_1 c0_2 c0_3 c0_4 c0_5 c0_6 c0_7 c1_0 c1_1 c1_2 c1_3 c1_4 c1_5 c1_6 c1_7 c1_8 c1_9 c1_10 c1_11 c1_12 c1_13 hb2 HB1
                  go_wp2_with fail
                  go_ret
                  exact ⟨by simp, HB2.out.below⟩
                · have HB0 := Lib.hid (bxs2 w (.cells #[.int .i64 f, .int .i64 d, .int .i64 r, .int .i64 pk, .float .f64 e1, .float .f64 e2, .float .f64 e3, .slice A cs.length cap] 27) (.cells #[.int .i64 sd, .int .i64 so, .int .i64 d1, .int .i64 d2, .int .i64 d3, .bool d4, .int .i64 d5, .int .i64 m1, .int .i64 m2, .int .i64 m3, .int .u32 ca, .int .i64 sh, .int .i64 il, .bool false] 38))
                  go_enter Tryd.func14, Tryd.ntmps14
                  go_wp2_with fail
                  refine (FV.out _ HB0.out.below).mono ?_
                  rintro e w1 ⟨rfl, hb1⟩
                  have HB1 := Lib.hid (HB0.out.next hb1)
                  clear hb1 HB0
                  have c0_0 : w1.cell? ⟨w.heap.size, 0, none⟩ = some (.int .i64 f) := cell_of_row _ _ _ _ _ (0, 0) HB1.out.r0
                  have c0_1 : w1.cell? ⟨w.heap.size, 1, none⟩ = some (.int .i64 d) := cell_of_row _ _ _ _ _ (0, 0) HB1.out.r0
                  have c0_2 : w1.cell? ⟨w.heap.size, 2, none⟩ = some (.int .i64 r) := cell_of_row _ _ _ _ _ (0, 0) HB1.out.r0
                  have c0_3 : w1.cell? ⟨w.heap.size, 3, none⟩ = some (.int .i64 pk) := cell_of_row _ _ _ _ _ (0, 0) HB1.out.r0
                  have c0_4 : w1.cell? ⟨w.heap.size, 4, none⟩ = some (.float .f64 e1) := cell_of_row _ _ _ _ _ (0, 0) HB1.out.r0
                  have c0_5 : w1.cell? ⟨w.heap.size, 5, none⟩ = some (.float .f64 e2) := cell_of_row _ _ _ _ _ (0, 0) HB1.out.r0
                  have c0_6 : w1.cell? ⟨w.heap.size, 6, none⟩ = some (.float .f64 e3) := cell_of_row _ _ _ _ _ (0, 0) HB1.out.r0
                  have c0_7 : w1.cell? ⟨w.heap.size, 7, none⟩ = some (.slice A cs.length cap) := cell_of_row _ _ _ _ _ (0, 0) HB1.out.r0
                  have c1_0 : w1.cell? ⟨w.heap.size + 1, 0, none⟩ = some (.int .i64 sd) := cell_of_row _ _ _ _ _ (0, 0) HB1.out.r1
                  have c1_1 : w1.cell? ⟨w.heap.size + 1, 1, none⟩ = some (.int .i64 so) := cell_of_row _ _ _ _ _ (0, 0) HB1.out.r1
                  have c1_2 : w1.cell? ⟨w.heap.size + 1, 2, none⟩ = some (.int .i64 d1) := cell_of_row _ _ _ _ _ (0, 0) HB1.out.r1
                  have c1_3 : w1.cell? ⟨w.heap.size + 1, 3, none⟩ = some (.int .i64 d2) := cell_of_row _ _ _ _ _ (0, 0) HB1.out.r1
                  have c1_4 : w1.cell? ⟨w.heap.size + 1, 4, none⟩ = some (.int .i64 d3) := cell_of_row _ _ _ _ _ (0, 0) HB1.out.r1
                  have c1_5 : w1.cell? ⟨w.heap.size + 1, 5, none⟩ = some (.bool d4) := cell_of_row _ _ _ _ _ (0, 0) HB1.out.r1
                  have c1_6 : w1.cell? ⟨w.heap.size + 1, 6, none⟩ = some (.int .i64 d5) := cell_of_row _ _ _ _ _ (0, 0) HB1.out.r1
                  have c1_7 : w1.cell? ⟨w.heap.size + 1, 7, none⟩ = some (.int .i64 m1) := cell_of_row _ _ _ _ _ (0, 0) HB1.out.r1
                  have c1_8 : w1.cell? ⟨w.heap.size + 1, 8, none⟩ = some (.int .i64 m2) := cell_of_row _ _ _ _ _ (0, 0) HB1.out.r1
                  have c1_9 : w1.cell? ⟨w.heap.size + 1, 9, none⟩ = some (.int .i64 m3) := cell_of_row _ _ _ _ _ (0, 0) HB1.out.r1
                  have c1_10 : w1.cell? ⟨w.heap.size + 1, 10, none⟩ = some (.int .u32 ca) := cell_of_row _ _ _ _ _ (0, 0) HB1.out.r1
                  have c1_11 : w1.cell? ⟨w.heap.size + 1, 11, none⟩ = some (.int .i64 sh) := cell_of_row _ _ _ _ _ (0, 0) HB1.out.r1
                  have c1_12 : w1.cell? ⟨w.heap.size + 1, 12, none⟩ = some (.int .i64 il) := cell_of_row _ _ _ _ _ (0, 0) HB1.out.r1
                  have c1_13 : w1.cell? ⟨w.heap.size + 1, 13, none⟩ = some (.bool false) := cell_of_row _ _ _ _ _ (0, 0) HB1.out.r1
                  go_wp2_with fail
                  refine Bag.region (fun wx => Below w1.heap.size w1 wx) (by kernel_rfl) (by kernel_rfl) (Below.refl _ _).drew ?_
                  iterate 43 (first
                      | (apply Bag.walk_yes (by rfl)
                         (intro wx hx K hK
                          have HXx := HB1.out.next hx
                          have z0_0 : wx.cell? ⟨w.heap.size, 0, none⟩ = some (.int .i64 f) := cell_of_row _ _ _ _ _ (0, 0) HXx.r0
                          have z0_1 : wx.cell? ⟨w.heap.size, 1, none⟩ = some (.int .i64 d) := cell_of_row _ _ _ _ _ (0, 0) HXx.r0
                          have z0_2 : wx.cell? ⟨w.heap.size, 2, none⟩ = some (.int .i64 r) := cell_of_row _ _ _ _ _ (0, 0) HXx.r0
                          have z0_3 : wx.cell? ⟨w.heap.size, 3, none⟩ = some (.int .i64 pk) := cell_of_row _ _ _ _ _ (0, 0) HXx.r0
                          have z0_4 : wx.cell? ⟨w.heap.size, 4, none⟩ = some (.float .f64 e1) := cell_of_row _ _ _ _ _ (0, 0) HXx.r0
                          have z0_5 : wx.cell? ⟨w.heap.size, 5, none⟩ = some (.float .f64 e2) := cell_of_row _ _ _ _ _ (0, 0) HXx.r0
                          have z0_6 : wx.cell? ⟨w.heap.size, 6, none⟩ = some (.float .f64 e3) := cell_of_row _ _ _ _ _ (0, 0) HXx.r0
                          have z0_7 : wx.cell? ⟨w.heap.size, 7, none⟩ = some (.slice A cs.length cap) := cell_of_row _ _ _ _ _ (0, 0) HXx.r0
                          have z1_0 : wx.cell? ⟨w.heap.size + 1, 0, none⟩ = some (.int .i64 sd) := cell_of_row _ _ _ _ _ (0, 0) HXx.r1
                          have z1_1 : wx.cell? ⟨w.heap.size + 1, 1, none⟩ = some (.int .i64 so) := cell_of_row _ _ _ _ _ (0, 0) HXx.r1
                          have z1_2 : wx.cell? ⟨w.heap.size + 1, 2, none⟩ = some (.int .i64 d1) := cell_of_row _ _ _ _ _ (0, 0) HXx.r1
                          have z1_3 : wx.cell? ⟨w.heap.size + 1, 3, none⟩ = some (.int .i64 d2) := cell_of_row _ _ _ _ _ (0, 0) HXx.r1
                          have z1_4 : wx.cell? ⟨w.heap.size + 1, 4, none⟩ = some (.int .i64 d3) := cell_of_row _ _ _ _ _ (0, 0) HXx.r1
                          have z1_5 : wx.cell? ⟨w.heap.size + 1, 5, none⟩ = some (.bool d4) := cell_of_row _ _ _ _ _ (0, 0) HXx.r1
                          have z1_6 : wx.cell? ⟨w.heap.size + 1, 6, none⟩ = some (.int .i64 d5) := cell_of_row _ _ _ _ _ (0, 0) HXx.r1
                          have z1_7 : wx.cell? ⟨w.heap.size + 1, 7, none⟩ = some (.int .i64 m1) := cell_of_row _ _ _ _ _ (0, 0) HXx.r1
                          have z1_8 : wx.cell? ⟨w.heap.size + 1, 8, none⟩ = some (.int .i64 m2) := cell_of_row _ _ _ _ _ (0, 0) HXx.r1
                          have z1_9 : wx.cell? ⟨w.heap.size + 1, 9, none⟩ = some (.int .i64 m3) := cell_of_row _ _ _ _ _ (0, 0) HXx.r1
                          have z1_10 : wx.cell? ⟨w.heap.size + 1, 10, none⟩ = some (.int .u32 ca) := cell_of_row _ _ _ _ _ (0, 0) HXx.r1
                          have z1_11 : wx.cell? ⟨w.heap.size + 1, 11, none⟩ = some (.int .i64 sh) := cell_of_row _ _ _ _ _ (0, 0) HXx.r1
                          have z1_12 : wx.cell? ⟨w.heap.size + 1, 12, none⟩ = some (.int .i64 il) := cell_of_row _ _ _ _ _ (0, 0) HXx.r1
                          have z1_13 : wx.cell? ⟨w.heap.size + 1, 13, none⟩ = some (.bool false) := cell_of_row _ _ _ _ _ (0, 0) HXx.r1
                          first
                            | (go_simp
                               first
                                | (go_at_call 28; (with_reducible refine (F1.out _).mono ?_); rintro e x1 ⟨rfl, hb⟩; exact hK _ (hx.trans (hb.mono hx.size)))
                                | (go_at_call 29; (with_reducible refine (F2.out _).mono ?_); rintro e x1 ⟨rfl, hb⟩; exact hK _ (hx.trans (hb.mono hx.size)))
                                | (go_at_call 30; (with_reducible refine (F3.out _ HXx.below).mono ?_); rintro e x1 ⟨rfl, hb⟩; exact hK _ (hx.trans (hb.mono hx.size)))
                                | (go_at_call 31; (with_reducible refine (F4.out _).mono ?_); rintro e x1 ⟨rfl, hb⟩; exact hK _ (hx.trans (hb.mono hx.size)))
                                | (go_at_call 33; (with_reducible refine (FA.out _).mono ?_); rintro e x1 ⟨rfl, hb⟩; exact hK _ (hx.trans (hb.mono hx.size)))
                                | (go_at_call 34; (with_reducible refine (F7.out _).mono ?_); rintro e x1 ⟨rfl, hb⟩; exact hK _ (hx.trans (hb.mono hx.size)))
                                | (go_at_call 34; (with_reducible refine (F8.out _).mono ?_); rintro e x1 ⟨rfl, hb⟩; exact hK _ (hx.trans (hb.mono hx.size)))
                                | (go_at_K; exact hK _ hx)))
                         rfl)
                      | (refine Bag.walk_no (by rfl) ?_; simp only [Act.put, List.setIfInBounds_toArray, List.set_cons_succ, List.set_cons_zero]))
                  refine Bag.walk_nil (fun w2 hb2 => ?_)
                  have HB2 := Lib.hid (HB1.out.next hb2)
                  clear c0_0 c0_1 c0_2 c0_3 c0_4 c0_5 c0_6 c0_7 c1_0 c1_1 c1_2 c1_3 c1_4 c1_5 c1_6 c1_7 c1_8 c1_9 c1_10 c1_11 c1_12 c1_13 hb2 HB1
                  go_wp2_with fail
                  go_ret
                  exact ⟨by simp, HB2.out.below⟩
    · have hR : Nc.isB b s = Nc.same s Nc.faulty := by unfold Nc.isB Nc.stB; rw [if_pos hv, hf, if_pos rfl]
      rw [hR]
      clear hR
      have hE := eqlNc s Nc.faulty
      simp only [show Nc.faulty.agg = .agg #[.int .i64 0, .int .i64 0, .int .i64 0, .int .i64 0, .int .i64 0, .bool false, .int .i64 0, .int .i64 0, .int .i64 0, .int .i64 0, .int .u32 0, .int .i64 0, .int .i64 0, .bool true] from rfl] at hE
      generalize Nc.same s Nc.faulty = q at *
      have FF := Lib.hid (fun wx => faulty_any wx)
      simp only [show Nc.faulty.agg = .agg #[.int .i64 0, .int .i64 0, .int .i64 0, .int .i64 0, .int .i64 0, .bool false, .int .i64 0, .int .i64 0, .int .i64 0, .int .i64 0, .int .u32 0, .int .i64 0, .int .i64 0, .bool true] from rfl] at FF
      clear hF hn hca hw hv
      obtain ⟨f, d, r, pk, e1, e2, e3, cs⟩ := b
      obtain ⟨sd, so, ⟨d1, d2, d3, d4, d5⟩, ⟨m1, m2, m3⟩, ca, sh, il, fa⟩ := s
      simp only at hf
      subst hf
      simp only [BldD.agg, Nc.agg, Nc.faulty, Dr.zero, Mo.zero] at *
      have HB0 := Lib.hid (bxs2 w (.cells #[.int .i64 f, .int .i64 d, .int .i64 r, .int .i64 pk, .float .f64 e1, .float .f64 e2, .float .f64 e3, .slice A cs.length cap] 27) (.cells #[.int .i64 sd, .int .i64 so, .int .i64 d1, .int .i64 d2, .int .i64 d3, .bool d4, .int .i64 d5, .int .i64 m1, .int .i64 m2, .int .i64 m3, .int .u32 ca, .int .i64 sh, .int .i64 il, .bool true] 38))
      go_enter Tryd.func14, Tryd.ntmps14
      go_wp2_with fail
      refine (FV.out _ HB0.out.below).mono ?_
      rintro e w1 ⟨rfl, hb1⟩
      have HB1 := Lib.hid (HB0.out.next hb1)
      clear hb1 HB0
      obtain ⟨c0_0, c0_1, c0_2, c0_3, c0_4, c0_5, c0_6, c0_7⟩ := row8 (b := w.heap.size) HB1.out.r0
      obtain ⟨c1_0, c1_1, c1_2, c1_3, c1_4, c1_5, c1_6, c1_7, c1_8, c1_9, c1_10, c1_11, c1_12, c1_13⟩ := row14 (b := w.heap.size + 1) HB1.out.r1
      go_wp2_with fail
      refine Bag.region (fun wx => Below w1.heap.size w1 wx) (by kernel_rfl) (by kernel_rfl) (Below.refl _ _).drew ?_
      iterate 4 (first
          | (apply Bag.walk_yes (by rfl)
             (intro wx hx K hK
              have HXx := HB1.out.next hx
              obtain ⟨z0_0, z0_1, z0_2, z0_3, z0_4, z0_5, z0_6, z0_7⟩ := row8 (b := w.heap.size) HXx.r0
              obtain ⟨z1_0, z1_1, z1_2, z1_3, z1_4, z1_5, z1_6, z1_7, z1_8, z1_9, z1_10, z1_11, z1_12, z1_13⟩ := row14 (b := w.heap.size + 1) HXx.r1
              first
                | (go_simp
                   first
                    | (go_at_call 27; (with_reducible refine (FF.out _).mono ?_); rintro e x1 ⟨rfl, hb⟩; exact hK _ (hx.trans (hb.mono hx.size)))
                    | (go_at_K; exact hK _ hx)))
             rfl)
          | (refine Bag.walk_no (by rfl) ?_; simp only [Act.put, List.setIfInBounds_toArray, List.set_cons_succ, List.set_cons_zero]))
      refine Bag.walk_nil (fun w2 hb2 => ?_)
      have HB2 := Lib.hid (HB1.out.next hb2)
      clear c0_0 c0_1 c0_2 c0_3 c0_4 c0_5 c0_6 c0_7 c1_0 c1_1 c1_2 c1_3 c1_4 c1_5 c1_6 c1_7 c1_8 c1_9 c1_10 c1_11 c1_12 c1_13 hb2 HB1
      go_wp2_with fail
      go_ret
      exact ⟨rfl, HB2.out.below⟩
  · have hR : Nc.isB b s = false := if_neg hv
    rw [hR]
    have hne : (validE b != 0) = true := by simpa using hv
    generalize validE b = v at *
    clear hR hv hn hca hw
    obtain ⟨f, d, r, pk, e1, e2, e3, cs⟩ := b
    obtain ⟨sd, so, ⟨d1, d2, d3, d4, d5⟩, ⟨m1, m2, m3⟩, ca, sh, il, fa⟩ := s
    simp only [tickV, Nc.agg, BldD.agg, Fb.agg, Dr.agg, Mo.agg, Cs.agg] at *
    have HB0 := Lib.hid (bxs2 w (.cells #[.int .i64 f, .int .i64 d, .int .i64 r, .int .i64 pk, .float .f64 e1, .float .f64 e2, .float .f64 e3, .slice A cs.length cap] 27) (.cells #[.int .i64 sd, .int .i64 so, .int .i64 d1, .int .i64 d2, .int .i64 d3, .bool d4, .int .i64 d5, .int .i64 m1, .int .i64 m2, .int .i64 m3, .int .u32 ca, .int .i64 sh, .int .i64 il, .bool fa] 38))
    go_enter Tryd.func14, Tryd.ntmps14
    go_wp2_with fail
    refine (FV.out _ HB0.out.below).mono ?_
    rintro e w1 ⟨rfl, hb1⟩
    have HB1 := Lib.hid (HB0.out.next hb1)
    clear hb1 HB0
    obtain ⟨c0_0, c0_1, c0_2, c0_3, c0_4, c0_5, c0_6, c0_7⟩ := row8 (b := w.heap.size) HB1.out.r0
    obtain ⟨c1_0, c1_1, c1_2, c1_3, c1_4, c1_5, c1_6, c1_7, c1_8, c1_9, c1_10, c1_11, c1_12, c1_13⟩ := row14 (b := w.heap.size + 1) HB1.out.r1
    go_wp2_with fail
    go_ret
    exact ⟨rfl, HB1.out.below⟩
set_option maxHeartbeats 4000000 in
theorem ncIsFb_any (b : BldD) (A : Option Addr) (cap : Nat) (x : Fb) (w : World) (hF : 2 ≤ b.floors ∧ b.floors ≤ 32) :
    Calls Tryd.prog 16 #[b.agg A cap, x.agg] w fun ee w' => ee = .returned (.bool (Fb.okB b.floors x)) ∧ Below w.heap.size w w' := by
  rw [show Fb.okB b.floors x = (Nc.wi 0 (b.floors - 1) x.fl && Nc.wi 0 2 x.dd) from rfl]
  have F1 := Lib.hid (fun wx => ncWithin_any 0 (b.floors - 1) x.fl wx)
  have F2 := Lib.hid (fun wx => ncWithin_any 0 2 x.dd wx)
  have hw : IntKind.i64.wrap (b.floors - 1) = b.floors - 1 := by rw [IntKind.wrap_i64]; omega
  generalize Nc.wi 0 (b.floors - 1) x.fl = q1 at *
  generalize Nc.wi 0 2 x.dd = q2 at *
  obtain ⟨f, d, r, pk, e1, e2, e3, cs⟩ := b
  obtain ⟨fl, lv, dd, bl⟩ := x
  simp only [tickV, Nc.agg, BldD.agg, Fb.agg, Dr.agg, Mo.agg, Cs.agg] at *
  clear hF
  cases q1
  · have HB0 := Lib.hid (bxs2 w (.cells #[.int .i64 f, .int .i64 d, .int .i64 r, .int .i64 pk, .float .f64 e1, .float .f64 e2, .float .f64 e3, .slice A cs.length cap] 27) (.cells #[.int .i64 fl, .bool lv, .int .i64 dd, .bool bl] 40))
    go_enter Tryd.func16, Tryd.ntmps16
    go_wp2_with fail
    refine (F1.out _).mono ?_
    rintro e w1 ⟨rfl, hb1⟩
    have HB1 := Lib.hid (HB0.out.next hb1)
    clear hb1 HB0
    have c0_0 : w1.cell? ⟨w.heap.size, 0, none⟩ = some (.int .i64 f) := cell_of_row _ _ _ _ _ (0, 0) HB1.out.r0
    have c1_0 : w1.cell? ⟨w.heap.size + 1, 0, none⟩ = some (.int .i64 fl) := cell_of_row _ _ _ _ _ (0, 0) HB1.out.r1
    have c1_1 : w1.cell? ⟨w.heap.size + 1, 1, none⟩ = some (.bool lv) := cell_of_row _ _ _ _ _ (0, 0) HB1.out.r1
    have c1_2 : w1.cell? ⟨w.heap.size + 1, 2, none⟩ = some (.int .i64 dd) := cell_of_row _ _ _ _ _ (0, 0) HB1.out.r1
    have c1_3 : w1.cell? ⟨w.heap.size + 1, 3, none⟩ = some (.bool bl) := cell_of_row _ _ _ _ _ (0, 0) HB1.out.r1
    go_wp2_with fail
    go_ret
    exact ⟨by simp, HB1.out.below⟩
  · have HB0 := Lib.hid (bxs2 w (.cells #[.int .i64 f, .int .i64 d, .int .i64 r, .int .i64 pk, .float .f64 e1, .float .f64 e2, .float .f64 e3, .slice A cs.length cap] 27) (.cells #[.int .i64 fl, .bool lv, .int .i64 dd, .bool bl] 40))
    go_enter Tryd.func16, Tryd.ntmps16
    go_wp2_with fail
    refine (F1.out _).mono ?_
    rintro e w1 ⟨rfl, hb1⟩
    have HB1 := Lib.hid (HB0.out.next hb1)
    clear hb1 HB0
    have c0_0 : w1.cell? ⟨w.heap.size, 0, none⟩ = some (.int .i64 f) := cell_of_row _ _ _ _ _ (0, 0) HB1.out.r0
    have c1_0 : w1.cell? ⟨w.heap.size + 1, 0, none⟩ = some (.int .i64 fl) := cell_of_row _ _ _ _ _ (0, 0) HB1.out.r1
    have c1_1 : w1.cell? ⟨w.heap.size + 1, 1, none⟩ = some (.bool lv) := cell_of_row _ _ _ _ _ (0, 0) HB1.out.r1
    have c1_2 : w1.cell? ⟨w.heap.size + 1, 2, none⟩ = some (.int .i64 dd) := cell_of_row _ _ _ _ _ (0, 0) HB1.out.r1
    have c1_3 : w1.cell? ⟨w.heap.size + 1, 3, none⟩ = some (.bool bl) := cell_of_row _ _ _ _ _ (0, 0) HB1.out.r1
    go_wp2_with fail
    refine (F2.out _).mono ?_
    rintro e w2 ⟨rfl, hb2⟩
    have HB2 := Lib.hid (HB1.out.next hb2)
    clear c0_0 c1_0 c1_1 c1_2 c1_3 hb2 HB1
    have c0_0 : w2.cell? ⟨w.heap.size, 0, none⟩ = some (.int .i64 f) := cell_of_row _ _ _ _ _ (0, 0) HB2.out.r0
    have c1_0 : w2.cell? ⟨w.heap.size + 1, 0, none⟩ = some (.int .i64 fl) := cell_of_row _ _ _ _ _ (0, 0) HB2.out.r1
    have c1_1 : w2.cell? ⟨w.heap.size + 1, 1, none⟩ = some (.bool lv) := cell_of_row _ _ _ _ _ (0, 0) HB2.out.r1
    have c1_2 : w2.cell? ⟨w.heap.size + 1, 2, none⟩ = some (.int .i64 dd) := cell_of_row _ _ _ _ _ (0, 0) HB2.out.r1
    have c1_3 : w2.cell? ⟨w.heap.size + 1, 3, none⟩ = some (.bool bl) := cell_of_row _ _ _ _ _ (0, 0) HB2.out.r1
    go_wp2_with fail
    go_ret
    exact ⟨by simp, HB2.out.below⟩
set_option maxHeartbeats 4000000 in
theorem ncIsCar_any (b : BldD) (A : Option Addr) (cap : Nat) (k : Int) (s : Nc) (w : World) (hw : NcW b A w) (hn : b.cars.length ≤ 140737488355328) (hca : s.ca < 4294967296) :
    Calls Tryd.prog 15 #[b.agg A cap, .int .i64 k, s.agg] w fun ee w' => ee = .returned (.bool (Nc.isCar b k s)) ∧ Below w.heap.size w w' := by
  have F1 := Lib.hid (fun wx (hb : Below w.heap.size w wx) => ncIsState_any b A cap s wx (hw.below hb) hn hca)
  have F2 := Lib.hid (fun wx => ncWithin_any 0 ((b.cars.length : Int) - 1) k wx)
  have hww : IntKind.i64.wrap ((b.cars.length : Int) - 1) = (b.cars.length : Int) - 1 := by rw [IntKind.wrap_i64]; omega
  unfold Nc.isCar
  generalize Nc.isB b s = q1 at *
  generalize Nc.wi 0 ((b.cars.length : Int) - 1) k = q2 at *
  obtain ⟨f, d, r, pk, e1, e2, e3, cs⟩ := b
  obtain ⟨sd, so, ⟨d1, d2, d3, d4, d5⟩, ⟨m1, m2, m3⟩, ca, sh, il, fa⟩ := s
  simp only [tickV, Nc.agg, BldD.agg, Fb.agg, Dr.agg, Mo.agg, Cs.agg] at *
  clear hn hca hw
  cases q1
  · have HB0 := Lib.hid (bxs2 w (.cells #[.int .i64 f, .int .i64 d, .int .i64 r, .int .i64 pk, .float .f64 e1, .float .f64 e2, .float .f64 e3, .slice A cs.length cap] 27) (.cells #[.int .i64 sd, .int .i64 so, .int .i64 d1, .int .i64 d2, .int .i64 d3, .bool d4, .int .i64 d5, .int .i64 m1, .int .i64 m2, .int .i64 m3, .int .u32 ca, .int .i64 sh, .int .i64 il, .bool fa] 38))
    go_enter Tryd.func15, Tryd.ntmps15
    go_wp2_with fail
    refine (F1.out _ HB0.out.below).mono ?_
    rintro e w1 ⟨rfl, hb1⟩
    have HB1 := Lib.hid (HB0.out.next hb1)
    clear hb1 HB0
    have c0_0 : w1.cell? ⟨w.heap.size, 0, none⟩ = some (.int .i64 f) := cell_of_row _ _ _ _ _ (0, 0) HB1.out.r0
    have c0_1 : w1.cell? ⟨w.heap.size, 1, none⟩ = some (.int .i64 d) := cell_of_row _ _ _ _ _ (0, 0) HB1.out.r0
    have c0_2 : w1.cell? ⟨w.heap.size, 2, none⟩ = some (.int .i64 r) := cell_of_row _ _ _ _ _ (0, 0) HB1.out.r0
    have c0_3 : w1.cell? ⟨w.heap.size, 3, none⟩ = some (.int .i64 pk) := cell_of_row _ _ _ _ _ (0, 0) HB1.out.r0
    have c0_4 : w1.cell? ⟨w.heap.size, 4, none⟩ = some (.float .f64 e1) := cell_of_row _ _ _ _ _ (0, 0) HB1.out.r0
    have c0_5 : w1.cell? ⟨w.heap.size, 5, none⟩ = some (.float .f64 e2) := cell_of_row _ _ _ _ _ (0, 0) HB1.out.r0
    have c0_6 : w1.cell? ⟨w.heap.size, 6, none⟩ = some (.float .f64 e3) := cell_of_row _ _ _ _ _ (0, 0) HB1.out.r0
    have c0_7 : w1.cell? ⟨w.heap.size, 7, none⟩ = some (.slice A cs.length cap) := cell_of_row _ _ _ _ _ (0, 0) HB1.out.r0
    have c1_0 : w1.cell? ⟨w.heap.size + 1, 0, none⟩ = some (.int .i64 sd) := cell_of_row _ _ _ _ _ (0, 0) HB1.out.r1
    have c1_1 : w1.cell? ⟨w.heap.size + 1, 1, none⟩ = some (.int .i64 so) := cell_of_row _ _ _ _ _ (0, 0) HB1.out.r1
    have c1_2 : w1.cell? ⟨w.heap.size + 1, 2, none⟩ = some (.int .i64 d1) := cell_of_row _ _ _ _ _ (0, 0) HB1.out.r1
    have c1_3 : w1.cell? ⟨w.heap.size + 1, 3, none⟩ = some (.int .i64 d2) := cell_of_row _ _ _ _ _ (0, 0) HB1.out.r1
    have c1_4 : w1.cell? ⟨w.heap.size + 1, 4, none⟩ = some (.int .i64 d3) := cell_of_row _ _ _ _ _ (0, 0) HB1.out.r1
    have c1_5 : w1.cell? ⟨w.heap.size + 1, 5, none⟩ = some (.bool d4) := cell_of_row _ _ _ _ _ (0, 0) HB1.out.r1
    have c1_6 : w1.cell? ⟨w.heap.size + 1, 6, none⟩ = some (.int .i64 d5) := cell_of_row _ _ _ _ _ (0, 0) HB1.out.r1
    have c1_7 : w1.cell? ⟨w.heap.size + 1, 7, none⟩ = some (.int .i64 m1) := cell_of_row _ _ _ _ _ (0, 0) HB1.out.r1
    have c1_8 : w1.cell? ⟨w.heap.size + 1, 8, none⟩ = some (.int .i64 m2) := cell_of_row _ _ _ _ _ (0, 0) HB1.out.r1
    have c1_9 : w1.cell? ⟨w.heap.size + 1, 9, none⟩ = some (.int .i64 m3) := cell_of_row _ _ _ _ _ (0, 0) HB1.out.r1
    have c1_10 : w1.cell? ⟨w.heap.size + 1, 10, none⟩ = some (.int .u32 ca) := cell_of_row _ _ _ _ _ (0, 0) HB1.out.r1
    have c1_11 : w1.cell? ⟨w.heap.size + 1, 11, none⟩ = some (.int .i64 sh) := cell_of_row _ _ _ _ _ (0, 0) HB1.out.r1
    have c1_12 : w1.cell? ⟨w.heap.size + 1, 12, none⟩ = some (.int .i64 il) := cell_of_row _ _ _ _ _ (0, 0) HB1.out.r1
    have c1_13 : w1.cell? ⟨w.heap.size + 1, 13, none⟩ = some (.bool fa) := cell_of_row _ _ _ _ _ (0, 0) HB1.out.r1
    go_wp2_with fail
    go_ret
    exact ⟨by simp, HB1.out.below⟩
  · have HB0 := Lib.hid (bxs2 w (.cells #[.int .i64 f, .int .i64 d, .int .i64 r, .int .i64 pk, .float .f64 e1, .float .f64 e2, .float .f64 e3, .slice A cs.length cap] 27) (.cells #[.int .i64 sd, .int .i64 so, .int .i64 d1, .int .i64 d2, .int .i64 d3, .bool d4, .int .i64 d5, .int .i64 m1, .int .i64 m2, .int .i64 m3, .int .u32 ca, .int .i64 sh, .int .i64 il, .bool fa] 38))
    go_enter Tryd.func15, Tryd.ntmps15
    go_wp2_with fail
    refine (F1.out _ HB0.out.below).mono ?_
    rintro e w1 ⟨rfl, hb1⟩
    have HB1 := Lib.hid (HB0.out.next hb1)
    clear hb1 HB0
    have c0_0 : w1.cell? ⟨w.heap.size, 0, none⟩ = some (.int .i64 f) := cell_of_row _ _ _ _ _ (0, 0) HB1.out.r0
    have c0_1 : w1.cell? ⟨w.heap.size, 1, none⟩ = some (.int .i64 d) := cell_of_row _ _ _ _ _ (0, 0) HB1.out.r0
    have c0_2 : w1.cell? ⟨w.heap.size, 2, none⟩ = some (.int .i64 r) := cell_of_row _ _ _ _ _ (0, 0) HB1.out.r0
    have c0_3 : w1.cell? ⟨w.heap.size, 3, none⟩ = some (.int .i64 pk) := cell_of_row _ _ _ _ _ (0, 0) HB1.out.r0
    have c0_4 : w1.cell? ⟨w.heap.size, 4, none⟩ = some (.float .f64 e1) := cell_of_row _ _ _ _ _ (0, 0) HB1.out.r0
    have c0_5 : w1.cell? ⟨w.heap.size, 5, none⟩ = some (.float .f64 e2) := cell_of_row _ _ _ _ _ (0, 0) HB1.out.r0
    have c0_6 : w1.cell? ⟨w.heap.size, 6, none⟩ = some (.float .f64 e3) := cell_of_row _ _ _ _ _ (0, 0) HB1.out.r0
    have c0_7 : w1.cell? ⟨w.heap.size, 7, none⟩ = some (.slice A cs.length cap) := cell_of_row _ _ _ _ _ (0, 0) HB1.out.r0
    have c1_0 : w1.cell? ⟨w.heap.size + 1, 0, none⟩ = some (.int .i64 sd) := cell_of_row _ _ _ _ _ (0, 0) HB1.out.r1
    have c1_1 : w1.cell? ⟨w.heap.size + 1, 1, none⟩ = some (.int .i64 so) := cell_of_row _ _ _ _ _ (0, 0) HB1.out.r1
    have c1_2 : w1.cell? ⟨w.heap.size + 1, 2, none⟩ = some (.int .i64 d1) := cell_of_row _ _ _ _ _ (0, 0) HB1.out.r1
    have c1_3 : w1.cell? ⟨w.heap.size + 1, 3, none⟩ = some (.int .i64 d2) := cell_of_row _ _ _ _ _ (0, 0) HB1.out.r1
    have c1_4 : w1.cell? ⟨w.heap.size + 1, 4, none⟩ = some (.int .i64 d3) := cell_of_row _ _ _ _ _ (0, 0) HB1.out.r1
    have c1_5 : w1.cell? ⟨w.heap.size + 1, 5, none⟩ = some (.bool d4) := cell_of_row _ _ _ _ _ (0, 0) HB1.out.r1
    have c1_6 : w1.cell? ⟨w.heap.size + 1, 6, none⟩ = some (.int .i64 d5) := cell_of_row _ _ _ _ _ (0, 0) HB1.out.r1
    have c1_7 : w1.cell? ⟨w.heap.size + 1, 7, none⟩ = some (.int .i64 m1) := cell_of_row _ _ _ _ _ (0, 0) HB1.out.r1
    have c1_8 : w1.cell? ⟨w.heap.size + 1, 8, none⟩ = some (.int .i64 m2) := cell_of_row _ _ _ _ _ (0, 0) HB1.out.r1
    have c1_9 : w1.cell? ⟨w.heap.size + 1, 9, none⟩ = some (.int .i64 m3) := cell_of_row _ _ _ _ _ (0, 0) HB1.out.r1
    have c1_10 : w1.cell? ⟨w.heap.size + 1, 10, none⟩ = some (.int .u32 ca) := cell_of_row _ _ _ _ _ (0, 0) HB1.out.r1
    have c1_11 : w1.cell? ⟨w.heap.size + 1, 11, none⟩ = some (.int .i64 sh) := cell_of_row _ _ _ _ _ (0, 0) HB1.out.r1
    have c1_12 : w1.cell? ⟨w.heap.size + 1, 12, none⟩ = some (.int .i64 il) := cell_of_row _ _ _ _ _ (0, 0) HB1.out.r1
    have c1_13 : w1.cell? ⟨w.heap.size + 1, 13, none⟩ = some (.bool fa) := cell_of_row _ _ _ _ _ (0, 0) HB1.out.r1
    go_wp2_with fail
    refine (F2.out _).mono ?_
    rintro e w2 ⟨rfl, hb2⟩
    have HB2 := Lib.hid (HB1.out.next hb2)
    clear c0_0 c0_1 c0_2 c0_3 c0_4 c0_5 c0_6 c0_7 c1_0 c1_1 c1_2 c1_3 c1_4 c1_5 c1_6 c1_7 c1_8 c1_9 c1_10 c1_11 c1_12 c1_13 hb2 HB1
    have c0_0 : w2.cell? ⟨w.heap.size, 0, none⟩ = some (.int .i64 f) := cell_of_row _ _ _ _ _ (0, 0) HB2.out.r0
    have c0_1 : w2.cell? ⟨w.heap.size, 1, none⟩ = some (.int .i64 d) := cell_of_row _ _ _ _ _ (0, 0) HB2.out.r0
    have c0_2 : w2.cell? ⟨w.heap.size, 2, none⟩ = some (.int .i64 r) := cell_of_row _ _ _ _ _ (0, 0) HB2.out.r0
    have c0_3 : w2.cell? ⟨w.heap.size, 3, none⟩ = some (.int .i64 pk) := cell_of_row _ _ _ _ _ (0, 0) HB2.out.r0
    have c0_4 : w2.cell? ⟨w.heap.size, 4, none⟩ = some (.float .f64 e1) := cell_of_row _ _ _ _ _ (0, 0) HB2.out.r0
    have c0_5 : w2.cell? ⟨w.heap.size, 5, none⟩ = some (.float .f64 e2) := cell_of_row _ _ _ _ _ (0, 0) HB2.out.r0
    have c0_6 : w2.cell? ⟨w.heap.size, 6, none⟩ = some (.float .f64 e3) := cell_of_row _ _ _ _ _ (0, 0) HB2.out.r0
    have c0_7 : w2.cell? ⟨w.heap.size, 7, none⟩ = some (.slice A cs.length cap) := cell_of_row _ _ _ _ _ (0, 0) HB2.out.r0
    have c1_0 : w2.cell? ⟨w.heap.size + 1, 0, none⟩ = some (.int .i64 sd) := cell_of_row _ _ _ _ _ (0, 0) HB2.out.r1
    have c1_1 : w2.cell? ⟨w.heap.size + 1, 1, none⟩ = some (.int .i64 so) := cell_of_row _ _ _ _ _ (0, 0) HB2.out.r1
    have c1_2 : w2.cell? ⟨w.heap.size + 1, 2, none⟩ = some (.int .i64 d1) := cell_of_row _ _ _ _ _ (0, 0) HB2.out.r1
    have c1_3 : w2.cell? ⟨w.heap.size + 1, 3, none⟩ = some (.int .i64 d2) := cell_of_row _ _ _ _ _ (0, 0) HB2.out.r1
    have c1_4 : w2.cell? ⟨w.heap.size + 1, 4, none⟩ = some (.int .i64 d3) := cell_of_row _ _ _ _ _ (0, 0) HB2.out.r1
    have c1_5 : w2.cell? ⟨w.heap.size + 1, 5, none⟩ = some (.bool d4) := cell_of_row _ _ _ _ _ (0, 0) HB2.out.r1
    have c1_6 : w2.cell? ⟨w.heap.size + 1, 6, none⟩ = some (.int .i64 d5) := cell_of_row _ _ _ _ _ (0, 0) HB2.out.r1
    have c1_7 : w2.cell? ⟨w.heap.size + 1, 7, none⟩ = some (.int .i64 m1) := cell_of_row _ _ _ _ _ (0, 0) HB2.out.r1
    have c1_8 : w2.cell? ⟨w.heap.size + 1, 8, none⟩ = some (.int .i64 m2) := cell_of_row _ _ _ _ _ (0, 0) HB2.out.r1
    have c1_9 : w2.cell? ⟨w.heap.size + 1, 9, none⟩ = some (.int .i64 m3) := cell_of_row _ _ _ _ _ (0, 0) HB2.out.r1
    have c1_10 : w2.cell? ⟨w.heap.size + 1, 10, none⟩ = some (.int .u32 ca) := cell_of_row _ _ _ _ _ (0, 0) HB2.out.r1
    have c1_11 : w2.cell? ⟨w.heap.size + 1, 11, none⟩ = some (.int .i64 sh) := cell_of_row _ _ _ _ _ (0, 0) HB2.out.r1
    have c1_12 : w2.cell? ⟨w.heap.size + 1, 12, none⟩ = some (.int .i64 il) := cell_of_row _ _ _ _ _ (0, 0) HB2.out.r1
    have c1_13 : w2.cell? ⟨w.heap.size + 1, 13, none⟩ = some (.bool fa) := cell_of_row _ _ _ _ _ (0, 0) HB2.out.r1
    go_wp2_with fail
    go_ret
    exact ⟨by simp, HB2.out.below⟩
end Go.Proofs.YtnjcegkefjdgdaaDoor
