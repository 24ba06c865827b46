/- Step, Blind and Shows of package newcar. No statement of the seat is proved here. -/
import Derived.Test.YtnjcegkefjdgdaaDoorNcIs
import Derived.Test.YtnjcegkefjdgdaaDoorNcCtl3
import Derived.Test.YtnjcegkefjdgdaaDoorNcInv
import Derived.Test.YtnjcegkefjdgdaaDoorG23
namespace Go.Proofs.YtnjcegkefjdgdaaDoor
open Go.RowKit
set_option maxRecDepth 4000
set_option linter.unusedSimpArgs false

theorem Nc.isB_valid {b : BldD} {s : Nc} (h : Nc.isB b s = true) : validE b = 0 ∧ Nc.stB b.floors s = true := by
  unfold Nc.isB at h
  split at h
  · rename_i hv; exact ⟨hv, h⟩
  · cases h
theorem Nc.isCar_of {b : BldD} {k : Int} {s : Nc} (h : Nc.isCar b k s = true) : Nc.isB b s = true ∧ (0 ≤ k ∧ k < b.cars.length) := by
  unfold Nc.isCar at h
  rw [Bool.and_eq_true, Nc.wi_iff] at h
  exact ⟨h.1, by omega⟩
theorem Nc.heard_lt {F : Int} (hF : F ≤ 32) (x : Fb) (s : Nc) (p : Nat) : Nc.heard F x s p < 4294967296 := by
  rw [← Nc.fits_heard]; exact Nc.fits_lt hF _

set_option maxHeartbeats 16000000 in
theorem ncStep_any (b : BldD) (A : Option Addr) (cap : Nat) (k : Int) (s : Nc) (x : Fb) (q : Nat) (h : Cs) (w : World) (hw : NcW b A w) (hn : b.cars.length ≤ 140737488355328) (hca : s.ca < 4294967296) (hq : q < 4294967296) (hh : h.ok) :
    Calls Tryd.prog 7 #[b.agg A cap, .int .i64 k, s.agg, x.agg, .int .u32 (q : Int), h.agg] w fun ee w' => ee = .returned (.tuple #[(Nc.stepF b k s x q h).1.agg, .int .i64 (Nc.stepF b k s x q h).2.1, .int .i64 (Nc.stepF b k s x q h).2.2]) ∧ Below w.heap.size w w' := by
  have FI := Lib.hid (fun wx (hb : Below w.heap.size w wx) => ncIsCar_any b A cap k s wx (hw.below hb) hn hca)
  cases hic : Nc.isCar b k s
  · rw [hic] at FI
    rw [show Nc.stepF b k s x q h = (Nc.zero, 0, 1) from if_neg (fun e => by rw [hic] at e; cases e.1)]
    rw [show Nc.zero.agg = .agg #[.int .i64 0, .int .i64 0, .int .i64 0, .int .i64 0, .int .i64 0, .bool false, .int .i64 0, .int .i64 0, .int .i64 0, .int .i64 0, .int .u32 0, .int .i64 0, .int .i64 0, .bool false] from rfl]
    clear hic hw hn hca hq hh
    obtain ⟨f, d, r, pk, e1, e2, e3, cs⟩ := b
    obtain ⟨fl, lv, dd, bl⟩ := x
    obtain ⟨hu, hd⟩ := h
    obtain ⟨sd, so, ⟨d1, d2, d3, d4, d5⟩, ⟨m1, m2, m3⟩, ca, sh, il, fa⟩ := s
    simp only [BldD.agg, Fb.agg, Cs.agg, Nc.agg, tickV, CarD.agg] at *
    have HB0 := Lib.hid (bxs5 w (.cells #[.int .i64 f, .int .i64 d, .int .i64 r, .int .i64 pk, .float .f64 e1, .float .f64 e2, .float .f64 e3, .slice A cs.length cap] 27) (.cells #[.int .i64 sd, .int .i64 so, .int .i64 d1, .int .i64 d2, .int .i64 d3, .bool d4, .int .i64 d5, .int .i64 m1, .int .i64 m2, .int .i64 m3, .int .u32 ca, .int .i64 sh, .int .i64 il, .bool fa] 38) (.cells #[.int .i64 fl, .bool lv, .int .i64 dd, .bool bl] 40) (.cells #[.int .u32 hu, .int .u32 hd] 42) (.cells #[.int .i64 0, .int .i64 0, .int .i64 0, .int .i64 0, .int .i64 0, .bool false, .int .i64 0, .int .i64 0, .int .i64 0, .int .i64 0, .int .u32 0, .int .i64 0, .int .i64 0, .bool false] 38))
    go_enter Tryd.func7, Tryd.ntmps7
    go_wp2_with fail
    refine (FI.out _ HB0.out.below).mono ?_
    rintro e w1 ⟨rfl, hb1⟩
    have HB1 := Lib.hid (HB0.out.next hb1)
    clear hb1 HB0
    obtain ⟨c0_0, c0_1, c0_2, c0_3, c0_4, c0_5, c0_6, c0_7⟩ := row8 (b := w.heap.size) HB1.out.r0
    obtain ⟨c1_0, c1_1, c1_2, c1_3, c1_4, c1_5, c1_6, c1_7, c1_8, c1_9, c1_10, c1_11, c1_12, c1_13⟩ := row14 (b := w.heap.size + 1) HB1.out.r1
    go_wp2_with (with_reducible show wpList _ _ _ (Oper.mk _ (.store 38 _ _) _ _ _ _ :: _) _ _; refine Hid.out ?_)
    refine Lib.hid ?_
    refine wpList_put rfl 38 _ _ rfl (w.heap.size + 4) #[.int .i64 0, .int .i64 0, .int .i64 0, .int .i64 0, .int .i64 0, .bool false, .int .i64 0, .int .i64 0, .int .i64 0, .int .i64 0, .int .u32 0, .int .i64 0, .int .i64 0, .bool false] _ 38 rfl rfl HB1.out.r4 (by kernel_rfl) rfl (by kernel_rfl) ?_
    intro w2 hr2 hg2
    have HB2 : Hid (Bx w [(w.heap.size, .cells #[.int .i64 f, .int .i64 d, .int .i64 r, .int .i64 pk, .float .f64 e1, .float .f64 e2, .float .f64 e3, .slice A cs.length cap] 27 (0, 0)), (w.heap.size + 1, .cells #[.int .i64 sd, .int .i64 so, .int .i64 d1, .int .i64 d2, .int .i64 d3, .bool d4, .int .i64 d5, .int .i64 m1, .int .i64 m2, .int .i64 m3, .int .u32 ca, .int .i64 sh, .int .i64 il, .bool fa] 38 (0, 0)), (w.heap.size + 2, .cells #[.int .i64 fl, .bool lv, .int .i64 dd, .bool bl] 40 (0, 0)), (w.heap.size + 3, .cells #[.int .u32 hu, .int .u32 hd] 42 (0, 0)), (w.heap.size + 4, .cells #[.int .i64 0, .int .i64 0, .int .i64 0, .int .i64 0, .int .i64 0, .bool false, .int .i64 0, .int .i64 0, .int .i64 0, .int .i64 0, .int .u32 0, .int .i64 0, .int .i64 0, .bool false] 38 (0, 0))] w2) := Lib.hid (HB1.out.put (by omega) hg2.out hr2.out (by simp only [List.mem_cons, List.not_mem_nil, or_false]; rintro p (rfl | rfl | rfl | rfl | rfl) <;> simp <;> omega))
    clear c0_0 c0_1 c0_2 c0_3 c0_4 c0_5 c0_6 c0_7 c1_0 c1_1 c1_2 c1_3 c1_4 c1_5 c1_6 c1_7 c1_8 c1_9 c1_10 c1_11 c1_12 c1_13 hr2 hg2 HB1
    go_wp2_with fail
    exact bodyPost_ret (results_row_tmp2 Tryd.results7 _ _ _ _ _ (0, 0) _ rfl HB2.out.r4 Tryd.underlying38 rfl (by kernel_rfl)) rfl (⟨rfl, HB2.out.below⟩)
  · obtain ⟨hib, hk⟩ := Nc.isCar_of hic
    obtain ⟨hv, hst⟩ := Nc.isB_valid hib
    have hF := (fineP_of hv).floors
    rw [hic] at FI
    have FX := Lib.hid (fun wx => ncIsFb_any b A cap x wx hF)
    cases hxb : Fb.okB b.floors x
    · rw [hxb] at FX
      rw [show Nc.stepF b k s x q h = (Nc.zero, 0, 1) from if_neg (fun e => by rw [hxb] at e; cases e.2)]
      rw [show Nc.zero.agg = .agg #[.int .i64 0, .int .i64 0, .int .i64 0, .int .i64 0, .int .i64 0, .bool false, .int .i64 0, .int .i64 0, .int .i64 0, .int .i64 0, .int .u32 0, .int .i64 0, .int .i64 0, .bool false] from rfl]
      clear hic hib hk hv hst hF hxb hw hn hca hq hh
      obtain ⟨f, d, r, pk, e1, e2, e3, cs⟩ := b
      obtain ⟨fl, lv, dd, bl⟩ := x
      obtain ⟨hu, hd⟩ := h
      obtain ⟨sd, so, ⟨d1, d2, d3, d4, d5⟩, ⟨m1, m2, m3⟩, ca, sh, il, fa⟩ := s
      simp only [BldD.agg, Fb.agg, Cs.agg, Nc.agg, tickV, CarD.agg] at *
      have HB0 := Lib.hid (bxs5 w (.cells #[.int .i64 f, .int .i64 d, .int .i64 r, .int .i64 pk, .float .f64 e1, .float .f64 e2, .float .f64 e3, .slice A cs.length cap] 27) (.cells #[.int .i64 sd, .int .i64 so, .int .i64 d1, .int .i64 d2, .int .i64 d3, .bool d4, .int .i64 d5, .int .i64 m1, .int .i64 m2, .int .i64 m3, .int .u32 ca, .int .i64 sh, .int .i64 il, .bool fa] 38) (.cells #[.int .i64 fl, .bool lv, .int .i64 dd, .bool bl] 40) (.cells #[.int .u32 hu, .int .u32 hd] 42) (.cells #[.int .i64 0, .int .i64 0, .int .i64 0, .int .i64 0, .int .i64 0, .bool false, .int .i64 0, .int .i64 0, .int .i64 0, .int .i64 0, .int .u32 0, .int .i64 0, .int .i64 0, .bool false] 38))
      go_enter Tryd.func7, Tryd.ntmps7
      go_wp2_with fail
      refine (FI.out _ HB0.out.below).mono ?_
      rintro e w1 ⟨rfl, hb1⟩
      have HB1 := Lib.hid (HB0.out.next hb1)
      clear hb1 HB0
      obtain ⟨c0_0, c0_1, c0_2, c0_3, c0_4, c0_5, c0_6, c0_7⟩ := row8 (b := w.heap.size) HB1.out.r0
      obtain ⟨c1_0, c1_1, c1_2, c1_3, c1_4, c1_5, c1_6, c1_7, c1_8, c1_9, c1_10, c1_11, c1_12, c1_13⟩ := row14 (b := w.heap.size + 1) HB1.out.r1
      obtain ⟨c2_0, c2_1, c2_2, c2_3⟩ := row4 (b := w.heap.size + 2) HB1.out.r2
      go_wp2_with fail
      refine (FX.out _).mono ?_
      rintro e w2 ⟨rfl, hb2⟩
      have HB2 := Lib.hid (HB1.out.next hb2)
      clear c0_0 c0_1 c0_2 c0_3 c0_4 c0_5 c0_6 c0_7 c1_0 c1_1 c1_2 c1_3 c1_4 c1_5 c1_6 c1_7 c1_8 c1_9 c1_10 c1_11 c1_12 c1_13 c2_0 c2_1 c2_2 c2_3 hb2 HB1
      obtain ⟨c0_0, c0_1, c0_2, c0_3, c0_4, c0_5, c0_6, c0_7⟩ := row8 (b := w.heap.size) HB2.out.r0
      obtain ⟨c1_0, c1_1, c1_2, c1_3, c1_4, c1_5, c1_6, c1_7, c1_8, c1_9, c1_10, c1_11, c1_12, c1_13⟩ := row14 (b := w.heap.size + 1) HB2.out.r1
      obtain ⟨c2_0, c2_1, c2_2, c2_3⟩ := row4 (b := w.heap.size + 2) HB2.out.r2
      go_wp2_with (with_reducible show wpList _ _ _ (Oper.mk _ (.store 38 _ _) _ _ _ _ :: _) _ _; refine Hid.out ?_)
      refine Lib.hid ?_
      refine wpList_put rfl 38 _ _ rfl (w.heap.size + 4) #[.int .i64 0, .int .i64 0, .int .i64 0, .int .i64 0, .int .i64 0, .bool false, .int .i64 0, .int .i64 0, .int .i64 0, .int .i64 0, .int .u32 0, .int .i64 0, .int .i64 0, .bool false] _ 38 rfl rfl HB2.out.r4 (by kernel_rfl) rfl (by kernel_rfl) ?_
      intro w3 hr3 hg3
      have HB3 : Hid (Bx w [(w.heap.size, .cells #[.int .i64 f, .int .i64 d, .int .i64 r, .int .i64 pk, .float .f64 e1, .float .f64 e2, .float .f64 e3, .slice A cs.length cap] 27 (0, 0)), (w.heap.size + 1, .cells #[.int .i64 sd, .int .i64 so, .int .i64 d1, .int .i64 d2, .int .i64 d3, .bool d4, .int .i64 d5, .int .i64 m1, .int .i64 m2, .int .i64 m3, .int .u32 ca, .int .i64 sh, .int .i64 il, .bool fa] 38 (0, 0)), (w.heap.size + 2, .cells #[.int .i64 fl, .bool lv, .int .i64 dd, .bool bl] 40 (0, 0)), (w.heap.size + 3, .cells #[.int .u32 hu, .int .u32 hd] 42 (0, 0)), (w.heap.size + 4, .cells #[.int .i64 0, .int .i64 0, .int .i64 0, .int .i64 0, .int .i64 0, .bool false, .int .i64 0, .int .i64 0, .int .i64 0, .int .i64 0, .int .u32 0, .int .i64 0, .int .i64 0, .bool false] 38 (0, 0))] w3) := Lib.hid (HB2.out.put (by omega) hg3.out hr3.out (by simp only [List.mem_cons, List.not_mem_nil, or_false]; rintro p (rfl | rfl | rfl | rfl | rfl) <;> simp <;> omega))
      clear c0_0 c0_1 c0_2 c0_3 c0_4 c0_5 c0_6 c0_7 c1_0 c1_1 c1_2 c1_3 c1_4 c1_5 c1_6 c1_7 c1_8 c1_9 c1_10 c1_11 c1_12 c1_13 c2_0 c2_1 c2_2 c2_3 hr3 hg3 HB2
      go_wp2_with fail
      exact bodyPost_ret (results_row_tmp2 Tryd.results7 _ _ _ _ _ (0, 0) _ rfl HB3.out.r4 Tryd.underlying38 rfl (by kernel_rfl)) rfl (⟨rfl, HB3.out.below⟩)
    · rw [hxb] at FX
      have hfb := Fb.okB_iff.1 hxb
      rw [show Nc.stepF b k s x q h = ((Nc.stepG b k s x q h).1, (Nc.stepG b k s x q h).2, 0) from if_pos ⟨hic, hxb⟩]
      have hg : NcG b k x h := ⟨hv, hk, hfb, hh⟩
      clear hic hib hxb
      cases hfa : s.fa
      · have hgood : Nc.Good b.floors s := by
          rcases Nc.stB_cases hst with e | e
          · rw [e] at hfa; cases hfa
          · exact e.2
        rw [show Nc.stepG b k s x q h = Nc.watched (Nc.carAt b k) (Nc.control b k (Nc.carAt b k) x h (Nc.told b.floors x q s)) by unfold Nc.stepG; rw [hfa, if_neg (by decide)]]
        have hgt := hgood.told x q
        have hns : NcS (Nc.told b.floors x q s) := ⟨hgt.sd, hgt.so, hgt.ca_lt hF.2, hgt.il⟩
        have FH := Lib.hid (fun wx => heard_any b A cap k x h s q wx hg hq)
        have hhl := Nc.heard_lt (F := b.floors) hF.2 x s q
        have hor := u32_or_nat s.ca (Nc.heard b.floors x s q) hca hhl
        have FC := Lib.hid (fun wx (hb : Below w.heap.size w wx) => control_any b A cap k x h (Nc.told b.floors x q s) wx (hw.below hb) hg hns)
        have FW := Lib.hid (fun (c : CarD) (r : Nc × Int) wx => watched_any c r.1 r.2 wx)
        rw [show Nc.told b.floors x q s = ⟨s.sd, s.so, s.dr, s.mo, s.ca ||| Nc.heard b.floors x s q, s.sh, s.il, s.fa⟩ from rfl] at FC ⊢
        generalize Nc.heard b.floors x s q = hr at *
        generalize s.ca ||| hr = cn at *
        generalize Nc.control b k (Nc.carAt b k) x h ⟨s.sd, s.so, s.dr, s.mo, cn, s.sh, s.il, s.fa⟩ = v at *
        have FW := Lib.hid (fun wx => FW.out (Nc.carAt b k) v wx)
        obtain ⟨j, rfl⟩ := Int.eq_ofNat_of_zero_le hk.1
        obtain ⟨B, off, c1, c2, c3, c4, c5, c6, c7, c8, c9, rfl, hcar, HKC⟩ := hw.car (show j < b.cars.length by omega)
        rw [hcar] at FW ⊢
        obtain ⟨vs, vm⟩ := v
        simp only at FW
        generalize Nc.watched ⟨c1, c2, c3, c4, c5, c6, c7, c8, c9⟩ (vs, vm) = t at *
        clear hcar hw hn hca hq hh hst hv hF hfb hg hgood hgt hns hhl
        obtain ⟨hk0, hk1⟩ := hk
        obtain ⟨ya, yb, ⟨y1, y2, y3, y4, y5⟩, ⟨z1, z2, z3⟩, yc, ys, yi, yf⟩ := vs
        obtain ⟨⟨ua, ub, ⟨u1, u2, u3, u4, u5⟩, ⟨v1, v2, v3⟩, uc, us, ui, uf⟩, um⟩ := t
        obtain ⟨f, d, r, pk, e1, e2, e3, cs⟩ := b
        obtain ⟨fl, lv, dd, bl⟩ := x
        obtain ⟨hu, hd⟩ := h
        obtain ⟨sd, so, ⟨d1, d2, d3, d4, d5⟩, ⟨m1, m2, m3⟩, ca, sh, il, fa⟩ := s
        simp only at hfa
        subst hfa
        simp only [BldD.agg, Fb.agg, Cs.agg, Nc.agg, tickV, CarD.agg] at *
        have HB0 := Lib.hid (bxs5 w (.cells #[.int .i64 f, .int .i64 d, .int .i64 r, .int .i64 pk, .float .f64 e1, .float .f64 e2, .float .f64 e3, .slice (some ⟨B, off, none⟩) cs.length cap] 27) (.cells #[.int .i64 sd, .int .i64 so, .int .i64 d1, .int .i64 d2, .int .i64 d3, .bool d4, .int .i64 d5, .int .i64 m1, .int .i64 m2, .int .i64 m3, .int .u32 ca, .int .i64 sh, .int .i64 il, .bool false] 38) (.cells #[.int .i64 fl, .bool lv, .int .i64 dd, .bool bl] 40) (.cells #[.int .u32 hu, .int .u32 hd] 42) (.cells #[.int .i64 0, .int .i64 0, .int .i64 0, .int .i64 0, .int .i64 0, .bool false, .int .i64 0, .int .i64 0, .int .i64 0, .int .i64 0, .int .u32 0, .int .i64 0, .int .i64 0, .bool false] 38))
        go_enter Tryd.func7, Tryd.ntmps7
        go_wp2_with fail
        refine (FI.out _ HB0.out.below).mono ?_
        rintro e w1 ⟨rfl, hb1⟩
        have HB1 := Lib.hid (HB0.out.next hb1)
        clear hb1 HB0
        obtain ⟨c0_0, c0_1, c0_2, c0_3, c0_4, c0_5, c0_6, c0_7⟩ := row8 (b := w.heap.size) HB1.out.r0
        obtain ⟨c1_0, c1_1, c1_2, c1_3, c1_4, c1_5, c1_6, c1_7, c1_8, c1_9, c1_10, c1_11, c1_12, c1_13⟩ := row14 (b := w.heap.size + 1) HB1.out.r1
        obtain ⟨c2_0, c2_1, c2_2, c2_3⟩ := row4 (b := w.heap.size + 2) HB1.out.r2
        obtain ⟨c3_0, c3_1⟩ := row2 (b := w.heap.size + 3) HB1.out.r3
        go_wp2_with fail
        refine (FX.out _).mono ?_
        rintro e w2 ⟨rfl, hb2⟩
        have HB2 := Lib.hid (HB1.out.next hb2)
        clear c0_0 c0_1 c0_2 c0_3 c0_4 c0_5 c0_6 c0_7 c1_0 c1_1 c1_2 c1_3 c1_4 c1_5 c1_6 c1_7 c1_8 c1_9 c1_10 c1_11 c1_12 c1_13 c2_0 c2_1 c2_2 c2_3 c3_0 c3_1 hb2 HB1
        obtain ⟨c0_0, c0_1, c0_2, c0_3, c0_4, c0_5, c0_6, c0_7⟩ := row8 (b := w.heap.size) HB2.out.r0
        obtain ⟨c1_0, c1_1, c1_2, c1_3, c1_4, c1_5, c1_6, c1_7, c1_8, c1_9, c1_10, c1_11, c1_12, c1_13⟩ := row14 (b := w.heap.size + 1) HB2.out.r1
        obtain ⟨c2_0, c2_1, c2_2, c2_3⟩ := row4 (b := w.heap.size + 2) HB2.out.r2
        obtain ⟨c3_0, c3_1⟩ := row2 (b := w.heap.size + 3) HB2.out.r3
        go_wp2_with (with_reducible show wpList _ _ _ (Oper.mk _ (.store 67 _ _) _ _ _ _ :: _) _ _; refine Hid.out ?_)
        refine Lib.hid ?_
        have l3_0 : w.heap.size < w2.heap.size := (Array.getElem?_eq_some_iff.1 HB2.out.r0).1
        have l3_1 : w.heap.size + 1 < w2.heap.size := (Array.getElem?_eq_some_iff.1 HB2.out.r1).1
        have l3_2 : w.heap.size + 2 < w2.heap.size := (Array.getElem?_eq_some_iff.1 HB2.out.r2).1
        have l3_3 : w.heap.size + 3 < w2.heap.size := (Array.getElem?_eq_some_iff.1 HB2.out.r3).1
        have l3_4 : w.heap.size + 4 < w2.heap.size := (Array.getElem?_eq_some_iff.1 HB2.out.r4).1
        have lw3 : w.heap.size ≤ w2.heap.size := HB2.out.below.size
        refine wpList_put rfl 67 _ _ rfl w2.heap.size #[.int .i64 f, .int .i64 d, .int .i64 r, .int .i64 pk, .float .f64 e1, .float .f64 e2, .float .f64 e3, .slice (some ⟨B, off, none⟩) cs.length cap, .int .i64 (j : Int), .int .i64 fl, .bool lv, .int .i64 dd, .bool bl, .int .u32 hu, .int .u32 hd] _ 67 rfl rfl (heap_alloc_new w2 _) (by kernel_rfl) rfl (by kernel_rfl) ?_
        intro w3 hr3 hg3
        have HB3 : Hid (Bx w [(w2.heap.size, .cells #[.int .i64 f, .int .i64 d, .int .i64 r, .int .i64 pk, .float .f64 e1, .float .f64 e2, .float .f64 e3, .slice (some ⟨B, off, none⟩) cs.length cap, .int .i64 (j : Int), .int .i64 fl, .bool lv, .int .i64 dd, .bool bl, .int .u32 hu, .int .u32 hd] 67 (0, 0)), (w.heap.size, .cells #[.int .i64 f, .int .i64 d, .int .i64 r, .int .i64 pk, .float .f64 e1, .float .f64 e2, .float .f64 e3, .slice (some ⟨B, off, none⟩) cs.length cap] 27 (0, 0)), (w.heap.size + 1, .cells #[.int .i64 sd, .int .i64 so, .int .i64 d1, .int .i64 d2, .int .i64 d3, .bool d4, .int .i64 d5, .int .i64 m1, .int .i64 m2, .int .i64 m3, .int .u32 ca, .int .i64 sh, .int .i64 il, .bool false] 38 (0, 0)), (w.heap.size + 2, .cells #[.int .i64 fl, .bool lv, .int .i64 dd, .bool bl] 40 (0, 0)), (w.heap.size + 3, .cells #[.int .u32 hu, .int .u32 hd] 42 (0, 0)), (w.heap.size + 4, .cells #[.int .i64 0, .int .i64 0, .int .i64 0, .int .i64 0, .int .i64 0, .bool false, .int .i64 0, .int .i64 0, .int .i64 0, .int .i64 0, .int .u32 0, .int .i64 0, .int .i64 0, .bool false] 38 (0, 0))] w3) := Lib.hid ((HB2.out.make (heap_alloc_new w2 (.cells #[.int .i64 0, .int .i64 0, .int .i64 0, .int .i64 0, .float .f64 0, .float .f64 0, .float .f64 0, .slice none 0 0, .int .i64 0, .int .i64 0, .bool false, .int .i64 0, .bool false, .int .u32 0, .int .u32 0] 67)) ((Below.refl w2.heap.size w2).alloc (Nat.le_refl _) _)).put HB2.out.below.size hg3.out hr3.out (by simp only [List.mem_cons, List.not_mem_nil, or_false]; rintro p (rfl | rfl | rfl | rfl | rfl | rfl) <;> simp <;> omega))
        clear c0_0 c0_1 c0_2 c0_3 c0_4 c0_5 c0_6 c0_7 c1_0 c1_1 c1_2 c1_3 c1_4 c1_5 c1_6 c1_7 c1_8 c1_9 c1_10 c1_11 c1_12 c1_13 c2_0 c2_1 c2_2 c2_3 c3_0 c3_1 hr3 hg3 HB2
        generalize w2.heap.size = gt at *
        obtain ⟨c0_0, c0_1, c0_2, c0_3, c0_4, c0_5, c0_6, c0_7, c0_8, c0_9, c0_10, c0_11, c0_12, c0_13, c0_14⟩ := row15 (b := gt) HB3.out.r0
        obtain ⟨c2_0, c2_1, c2_2, c2_3, c2_4, c2_5, c2_6, c2_7, c2_8, c2_9, c2_10, c2_11, c2_12, c2_13⟩ := row14 (b := w.heap.size + 1) HB3.out.r2
        go_wp2_with fail
        have q0 : gt < w3.heap.size := (Array.getElem?_eq_some_iff.1 HB3.out.r0).1
        have q1 : w.heap.size < w3.heap.size := (Array.getElem?_eq_some_iff.1 HB3.out.r1).1
        have q2 : w.heap.size + 1 < w3.heap.size := (Array.getElem?_eq_some_iff.1 HB3.out.r2).1
        have q3 : w.heap.size + 2 < w3.heap.size := (Array.getElem?_eq_some_iff.1 HB3.out.r3).1
        have q4 : w.heap.size + 3 < w3.heap.size := (Array.getElem?_eq_some_iff.1 HB3.out.r4).1
        have q5 : w.heap.size + 4 < w3.heap.size := (Array.getElem?_eq_some_iff.1 HB3.out.r5).1
        refine Chain.chain (fun p wx => Put (w3) (w.heap.size + 1) (.cells (if p = 0 then #[.int .i64 sd, .int .i64 so, .int .i64 d1, .int .i64 d2, .int .i64 d3, .bool d4, .int .i64 d5, .int .i64 m1, .int .i64 m2, .int .i64 m3, .int .u32 ca, .int .i64 sh, .int .i64 il, .bool false] else #[.int .i64 sd, .int .i64 so, .int .i64 d1, .int .i64 d2, .int .i64 d3, .bool d4, .int .i64 d5, .int .i64 m1, .int .i64 m2, .int .i64 m3, .int .u32 (cn : Nat), .int .i64 sh, .int .i64 il, .bool false]) 38 (0, 0)) wx) (fun _ _ => False) [8] (by kernel_rfl) (by kernel_rfl) (fun _ _ _ _ h => h.elim) ((Put.start HB3.out.r2).drew) ?_
        iterate 2
          (first
              | (apply Chain.walk_quiet (by rfl) (by decide)
                 (intro p wx hp hwn hx K hK
                  obtain ⟨z0_0, z0_1, z0_2, z0_3, z0_4, z0_5, z0_6, z0_7, z0_8, z0_9, z0_10, z0_11, z0_12, z0_13, z0_14⟩ := row15 (b := gt) ((hx.other (gt) q0 (by omega)).trans HB3.out.r0)
                  first
                    | (go_simp
                       first
                        | (go_at_call 17; (with_reducible refine (FH.out _).mono ?_); rintro e x1 ⟨rfl, hb⟩; exact hK _ (hx.next hb))
                        | (go_at_K; exact hK _ hx)))
                 exact ⟨_, rfl⟩)
              | (refine Chain.walk_no (by rfl) (by decide) ?_; simp only [Act.put, List.setIfInBounds_toArray, List.set_cons_succ, List.set_cons_zero]))
          (first
              | (apply Chain.walk_quiet (by rfl) (by decide)
                 (intro p wx hp hwn hx K hK
                  obtain rfl : p = 0 := (by rcases Nat.lt_or_ge p 1 with h | h; exact Nat.lt_one_iff.1 h; obtain rfl : p = 1 := Nat.le_antisymm hp h; exact absurd ((Eq.symm (show _ = false by kernel_rfl)).trans hwn) Bool.false_ne_true)
                  have hx0 : Put w3 (w.heap.size + 1) (.cells #[.int .i64 sd, .int .i64 so, .int .i64 d1, .int .i64 d2, .int .i64 d3, .bool d4, .int .i64 d5, .int .i64 m1, .int .i64 m2, .int .i64 m3, .int .u32 ca, .int .i64 sh, .int .i64 il, .bool false] 38 (0, 0)) wx := hx
                  have z2_0 : wx.cell? ⟨w.heap.size + 1, 0, none⟩ = some (.int .i64 sd) := cell_of_row _ _ _ _ _ (0, 0) hx0.row
                  have z2_1 : wx.cell? ⟨w.heap.size + 1, 1, none⟩ = some (.int .i64 so) := cell_of_row _ _ _ _ _ (0, 0) hx0.row
                  have z2_2 : wx.cell? ⟨w.heap.size + 1, 2, none⟩ = some (.int .i64 d1) := cell_of_row _ _ _ _ _ (0, 0) hx0.row
                  have z2_3 : wx.cell? ⟨w.heap.size + 1, 3, none⟩ = some (.int .i64 d2) := cell_of_row _ _ _ _ _ (0, 0) hx0.row
                  have z2_4 : wx.cell? ⟨w.heap.size + 1, 4, none⟩ = some (.int .i64 d3) := cell_of_row _ _ _ _ _ (0, 0) hx0.row
                  have z2_5 : wx.cell? ⟨w.heap.size + 1, 5, none⟩ = some (.bool d4) := cell_of_row _ _ _ _ _ (0, 0) hx0.row
                  have z2_6 : wx.cell? ⟨w.heap.size + 1, 6, none⟩ = some (.int .i64 d5) := cell_of_row _ _ _ _ _ (0, 0) hx0.row
                  have z2_7 : wx.cell? ⟨w.heap.size + 1, 7, none⟩ = some (.int .i64 m1) := cell_of_row _ _ _ _ _ (0, 0) hx0.row
                  have z2_8 : wx.cell? ⟨w.heap.size + 1, 8, none⟩ = some (.int .i64 m2) := cell_of_row _ _ _ _ _ (0, 0) hx0.row
                  have z2_9 : wx.cell? ⟨w.heap.size + 1, 9, none⟩ = some (.int .i64 m3) := cell_of_row _ _ _ _ _ (0, 0) hx0.row
                  have z2_10 : wx.cell? ⟨w.heap.size + 1, 10, none⟩ = some (.int .u32 ca) := cell_of_row _ _ _ _ _ (0, 0) hx0.row
                  have z2_11 : wx.cell? ⟨w.heap.size + 1, 11, none⟩ = some (.int .i64 sh) := cell_of_row _ _ _ _ _ (0, 0) hx0.row
                  have z2_12 : wx.cell? ⟨w.heap.size + 1, 12, none⟩ = some (.int .i64 il) := cell_of_row _ _ _ _ _ (0, 0) hx0.row
                  have z2_13 : wx.cell? ⟨w.heap.size + 1, 13, none⟩ = some (.bool false) := cell_of_row _ _ _ _ _ (0, 0) hx0.row
                  obtain ⟨z0_0, z0_1, z0_2, z0_3, z0_4, z0_5, z0_6, z0_7, z0_8, z0_9, z0_10, z0_11, z0_12, z0_13, z0_14⟩ := row15 (b := gt) ((hx.other (gt) q0 (by omega)).trans HB3.out.r0)
                  first
                    | (go_simp
                       first
                        | (go_at_call 17; (with_reducible refine (FH.out _).mono ?_); rintro e x1 ⟨rfl, hb⟩; exact hK _ (hx.next hb))
                        | (go_at_K; exact hK _ hx)))
                 exact ⟨_, rfl⟩)
              | (refine Chain.walk_no (by rfl) (by decide) ?_; simp only [Act.put, List.setIfInBounds_toArray, List.set_cons_succ, List.set_cons_zero]))
        iterate 4
          (first
              | (apply Chain.walk_quiet (by rfl) (by decide)
                 (intro p wx hp hwn hx K hK
                  obtain ⟨z0_0, z0_1, z0_2, z0_3, z0_4, z0_5, z0_6, z0_7, z0_8, z0_9, z0_10, z0_11, z0_12, z0_13, z0_14⟩ := row15 (b := gt) ((hx.other (gt) q0 (by omega)).trans HB3.out.r0)
                  first
                    | (go_simp
                       first
                        | (go_at_call 17; (with_reducible refine (FH.out _).mono ?_); rintro e x1 ⟨rfl, hb⟩; exact hK _ (hx.next hb))
                        | (go_at_K; exact hK _ hx)))
                 exact ⟨_, rfl⟩)
              | (refine Chain.walk_no (by rfl) (by decide) ?_; simp only [Act.put, List.setIfInBounds_toArray, List.set_cons_succ, List.set_cons_zero]))
        apply Chain.walk_turn 0 (by rfl) (by rfl)
        · intro wx hx K hK
          have hx1 : Put (w3) (w.heap.size + 1) (.cells #[.int .i64 sd, .int .i64 so, .int .i64 d1, .int .i64 d2, .int .i64 d3, .bool d4, .int .i64 d5, .int .i64 m1, .int .i64 m2, .int .i64 m3, .int .u32 ca, .int .i64 sh, .int .i64 il, .bool false] 38 (0, 0)) wx := hx
          have z1 := hx1.cell 10
          have z2 := hx1.free 10
          simp only [List.getElem?_toArray, List.getElem?_cons_zero, List.getElem?_cons_succ] at z1
          go_simp
          go_at_K
          exact hK _ (hx1.put1 10 _)
        · exact ⟨undef, rfl⟩
        refine Chain.walk_nil (fun w4 hp4 => ?_)
        replace hp4 : Put (w3) (w.heap.size + 1) (.cells #[.int .i64 sd, .int .i64 so, .int .i64 d1, .int .i64 d2, .int .i64 d3, .bool d4, .int .i64 d5, .int .i64 m1, .int .i64 m2, .int .i64 m3, .int .u32 (cn : Nat), .int .i64 sh, .int .i64 il, .bool false] 38 (0, 0)) w4 := hp4
        try simp only [Act.put]
        have HB4 : Hid (Bx w [(gt, .cells #[.int .i64 f, .int .i64 d, .int .i64 r, .int .i64 pk, .float .f64 e1, .float .f64 e2, .float .f64 e3, .slice (some ⟨B, off, none⟩) cs.length cap, .int .i64 (j : Int), .int .i64 fl, .bool lv, .int .i64 dd, .bool bl, .int .u32 hu, .int .u32 hd] 67 (0, 0)), (w.heap.size, .cells #[.int .i64 f, .int .i64 d, .int .i64 r, .int .i64 pk, .float .f64 e1, .float .f64 e2, .float .f64 e3, .slice (some ⟨B, off, none⟩) cs.length cap] 27 (0, 0)), (w.heap.size + 1, .cells #[.int .i64 sd, .int .i64 so, .int .i64 d1, .int .i64 d2, .int .i64 d3, .bool d4, .int .i64 d5, .int .i64 m1, .int .i64 m2, .int .i64 m3, .int .u32 (cn : Nat), .int .i64 sh, .int .i64 il, .bool false] 38 (0, 0)), (w.heap.size + 2, .cells #[.int .i64 fl, .bool lv, .int .i64 dd, .bool bl] 40 (0, 0)), (w.heap.size + 3, .cells #[.int .u32 hu, .int .u32 hd] 42 (0, 0)), (w.heap.size + 4, .cells #[.int .i64 0, .int .i64 0, .int .i64 0, .int .i64 0, .int .i64 0, .bool false, .int .i64 0, .int .i64 0, .int .i64 0, .int .i64 0, .int .u32 0, .int .i64 0, .int .i64 0, .bool false] 38 (0, 0))] w4) := Lib.hid (HB3.out.ofPut (by omega) hp4 (by simp only [List.mem_cons, List.not_mem_nil, or_false]; rintro p (rfl | rfl | rfl | rfl | rfl | rfl) <;> simp <;> omega))
        clear c0_0 c0_1 c0_2 c0_3 c0_4 c0_5 c0_6 c0_7 c0_8 c0_9 c0_10 c0_11 c0_12 c0_13 c0_14 c2_0 c2_1 c2_2 c2_3 c2_4 c2_5 c2_6 c2_7 c2_8 c2_9 c2_10 c2_11 c2_12 c2_13 hp4 HB3 q0 q1 q2 q3 q4 q5
        obtain ⟨c0_0, c0_1, c0_2, c0_3, c0_4, c0_5, c0_6, c0_7, c0_8, c0_9, c0_10, c0_11, c0_12, c0_13, c0_14⟩ := row15 (b := gt) HB4.out.r0
        obtain ⟨c2_0, c2_1, c2_2, c2_3, c2_4, c2_5, c2_6, c2_7, c2_8, c2_9, c2_10, c2_11, c2_12, c2_13⟩ := row14 (b := w.heap.size + 1) HB4.out.r2
        go_wp2_with fail
        refine (FC.out _ HB4.out.below).mono ?_
        rintro e w5 ⟨rfl, hb5⟩
        have HB5 := Lib.hid (HB4.out.next hb5)
        clear c0_0 c0_1 c0_2 c0_3 c0_4 c0_5 c0_6 c0_7 c0_8 c0_9 c0_10 c0_11 c0_12 c0_13 c0_14 c2_0 c2_1 c2_2 c2_3 c2_4 c2_5 c2_6 c2_7 c2_8 c2_9 c2_10 c2_11 c2_12 c2_13 hb5 HB4
        obtain ⟨c0_0, c0_1, c0_2, c0_3, c0_4, c0_5, c0_6, c0_7, c0_8, c0_9, c0_10, c0_11, c0_12, c0_13, c0_14⟩ := row15 (b := gt) HB5.out.r0
        obtain ⟨c2_0, c2_1, c2_2, c2_3, c2_4, c2_5, c2_6, c2_7, c2_8, c2_9, c2_10, c2_11, c2_12, c2_13⟩ := row14 (b := w.heap.size + 1) HB5.out.r2
        go_wp2_with (with_reducible show wpList _ _ _ (Oper.mk _ (.store 38 _ _) _ _ _ _ :: _) _ _; refine Hid.out ?_)
        refine Lib.hid ?_
        refine wpList_put rfl 38 _ _ rfl (w.heap.size + 1) #[.int .i64 ya, .int .i64 yb, .int .i64 y1, .int .i64 y2, .int .i64 y3, .bool y4, .int .i64 y5, .int .i64 z1, .int .i64 z2, .int .i64 z3, .int .u32 (yc : Nat), .int .i64 ys, .int .i64 yi, .bool yf] _ 38 rfl rfl HB5.out.r2 (by kernel_rfl) rfl (by kernel_rfl) ?_
        intro w6 hr6 hg6
        have HB6 : Hid (Bx w [(gt, .cells #[.int .i64 f, .int .i64 d, .int .i64 r, .int .i64 pk, .float .f64 e1, .float .f64 e2, .float .f64 e3, .slice (some ⟨B, off, none⟩) cs.length cap, .int .i64 (j : Int), .int .i64 fl, .bool lv, .int .i64 dd, .bool bl, .int .u32 hu, .int .u32 hd] 67 (0, 0)), (w.heap.size, .cells #[.int .i64 f, .int .i64 d, .int .i64 r, .int .i64 pk, .float .f64 e1, .float .f64 e2, .float .f64 e3, .slice (some ⟨B, off, none⟩) cs.length cap] 27 (0, 0)), (w.heap.size + 1, .cells #[.int .i64 ya, .int .i64 yb, .int .i64 y1, .int .i64 y2, .int .i64 y3, .bool y4, .int .i64 y5, .int .i64 z1, .int .i64 z2, .int .i64 z3, .int .u32 (yc : Nat), .int .i64 ys, .int .i64 yi, .bool yf] 38 (0, 0)), (w.heap.size + 2, .cells #[.int .i64 fl, .bool lv, .int .i64 dd, .bool bl] 40 (0, 0)), (w.heap.size + 3, .cells #[.int .u32 hu, .int .u32 hd] 42 (0, 0)), (w.heap.size + 4, .cells #[.int .i64 0, .int .i64 0, .int .i64 0, .int .i64 0, .int .i64 0, .bool false, .int .i64 0, .int .i64 0, .int .i64 0, .int .i64 0, .int .u32 0, .int .i64 0, .int .i64 0, .bool false] 38 (0, 0))] w6) := Lib.hid (HB5.out.put (by omega) hg6.out hr6.out (by simp only [List.mem_cons, List.not_mem_nil, or_false]; rintro p (rfl | rfl | rfl | rfl | rfl | rfl) <;> simp <;> omega))
        clear c0_0 c0_1 c0_2 c0_3 c0_4 c0_5 c0_6 c0_7 c0_8 c0_9 c0_10 c0_11 c0_12 c0_13 c0_14 c2_0 c2_1 c2_2 c2_3 c2_4 c2_5 c2_6 c2_7 c2_8 c2_9 c2_10 c2_11 c2_12 c2_13 hr6 hg6 HB5
        obtain ⟨-, -, -, -, -, -, -, c1_7⟩ := row8 (b := w.heap.size) HB6.out.r1
        go_wp2_with fail
        have q0 : gt < w6.heap.size := (Array.getElem?_eq_some_iff.1 HB6.out.r0).1
        have q1 : w.heap.size < w6.heap.size := (Array.getElem?_eq_some_iff.1 HB6.out.r1).1
        have q2 : w.heap.size + 1 < w6.heap.size := (Array.getElem?_eq_some_iff.1 HB6.out.r2).1
        have q3 : w.heap.size + 2 < w6.heap.size := (Array.getElem?_eq_some_iff.1 HB6.out.r3).1
        have q4 : w.heap.size + 3 < w6.heap.size := (Array.getElem?_eq_some_iff.1 HB6.out.r4).1
        have q5 : w.heap.size + 4 < w6.heap.size := (Array.getElem?_eq_some_iff.1 HB6.out.r5).1
        refine Chain.chain (fun p wx => Put (w6) (w.heap.size + 1) (.cells (if p = 0 then #[.int .i64 ya, .int .i64 yb, .int .i64 y1, .int .i64 y2, .int .i64 y3, .bool y4, .int .i64 y5, .int .i64 z1, .int .i64 z2, .int .i64 z3, .int .u32 (yc : Nat), .int .i64 ys, .int .i64 yi, .bool yf] else #[.int .i64 ua, .int .i64 ub, .int .i64 u1, .int .i64 u2, .int .i64 u3, .bool u4, .int .i64 u5, .int .i64 v1, .int .i64 v2, .int .i64 v3, .int .u32 (uc : Nat), .int .i64 us, .int .i64 ui, .bool uf]) 38 (0, 0)) wx) (fun _ _ => False) [11] (by kernel_rfl) (by kernel_rfl) (fun _ _ _ _ h => h.elim) ((Put.start HB6.out.r2).drew) ?_
        iterate 5
          (first
              | (apply Chain.walk_quiet (by rfl) (by decide)
                 (intro p wx hp hwn hx K hK
                  obtain ⟨-, -, -, -, -, -, -, z1_7⟩ := row8 (b := w.heap.size) ((hx.other (w.heap.size) q1 (by omega)).trans HB6.out.r1)
                  obtain ⟨k0, k1, k2, k3, k4, k5, k6, k7, k8⟩ := HKC.out wx (HB6.out.below.trans (hx.below (by omega) HB6.out.below.size))
                  first
                    | (go_simp
                       first
                        | (go_at_call 19; (with_reducible refine (FW.out _).mono ?_); rintro e x1 ⟨rfl, hb⟩; exact hK _ (hx.next hb))
                        | (go_at_K; exact hK _ hx)))
                 exact ⟨_, rfl⟩)
              | (refine Chain.walk_no (by rfl) (by decide) ?_; simp only [Act.put, List.setIfInBounds_toArray, List.set_cons_succ, List.set_cons_zero]))
        (first
            | (apply Chain.walk_quiet (by rfl) (by decide)
               (intro p wx hp hwn hx K hK
                obtain rfl : p = 0 := (by rcases Nat.lt_or_ge p 1 with h | h; exact Nat.lt_one_iff.1 h; obtain rfl : p = 1 := Nat.le_antisymm hp h; exact absurd ((Eq.symm (show _ = false by kernel_rfl)).trans hwn) Bool.false_ne_true)
                have hx0 : Put w6 (w.heap.size + 1) (.cells #[.int .i64 ya, .int .i64 yb, .int .i64 y1, .int .i64 y2, .int .i64 y3, .bool y4, .int .i64 y5, .int .i64 z1, .int .i64 z2, .int .i64 z3, .int .u32 (yc : Nat), .int .i64 ys, .int .i64 yi, .bool yf] 38 (0, 0)) wx := hx
                have z2_0 : wx.cell? ⟨w.heap.size + 1, 0, none⟩ = some (.int .i64 ya) := cell_of_row _ _ _ _ _ (0, 0) hx0.row
                have z2_1 : wx.cell? ⟨w.heap.size + 1, 1, none⟩ = some (.int .i64 yb) := cell_of_row _ _ _ _ _ (0, 0) hx0.row
                have z2_2 : wx.cell? ⟨w.heap.size + 1, 2, none⟩ = some (.int .i64 y1) := cell_of_row _ _ _ _ _ (0, 0) hx0.row
                have z2_3 : wx.cell? ⟨w.heap.size + 1, 3, none⟩ = some (.int .i64 y2) := cell_of_row _ _ _ _ _ (0, 0) hx0.row
                have z2_4 : wx.cell? ⟨w.heap.size + 1, 4, none⟩ = some (.int .i64 y3) := cell_of_row _ _ _ _ _ (0, 0) hx0.row
                have z2_5 : wx.cell? ⟨w.heap.size + 1, 5, none⟩ = some (.bool y4) := cell_of_row _ _ _ _ _ (0, 0) hx0.row
                have z2_6 : wx.cell? ⟨w.heap.size + 1, 6, none⟩ = some (.int .i64 y5) := cell_of_row _ _ _ _ _ (0, 0) hx0.row
                have z2_7 : wx.cell? ⟨w.heap.size + 1, 7, none⟩ = some (.int .i64 z1) := cell_of_row _ _ _ _ _ (0, 0) hx0.row
                have z2_8 : wx.cell? ⟨w.heap.size + 1, 8, none⟩ = some (.int .i64 z2) := cell_of_row _ _ _ _ _ (0, 0) hx0.row
                have z2_9 : wx.cell? ⟨w.heap.size + 1, 9, none⟩ = some (.int .i64 z3) := cell_of_row _ _ _ _ _ (0, 0) hx0.row
                have z2_10 : wx.cell? ⟨w.heap.size + 1, 10, none⟩ = some (.int .u32 (yc : Nat)) := cell_of_row _ _ _ _ _ (0, 0) hx0.row
                have z2_11 : wx.cell? ⟨w.heap.size + 1, 11, none⟩ = some (.int .i64 ys) := cell_of_row _ _ _ _ _ (0, 0) hx0.row
                have z2_12 : wx.cell? ⟨w.heap.size + 1, 12, none⟩ = some (.int .i64 yi) := cell_of_row _ _ _ _ _ (0, 0) hx0.row
                have z2_13 : wx.cell? ⟨w.heap.size + 1, 13, none⟩ = some (.bool yf) := cell_of_row _ _ _ _ _ (0, 0) hx0.row
                obtain ⟨-, -, -, -, -, -, -, z1_7⟩ := row8 (b := w.heap.size) ((hx.other (w.heap.size) q1 (by omega)).trans HB6.out.r1)
                obtain ⟨k0, k1, k2, k3, k4, k5, k6, k7, k8⟩ := HKC.out wx (HB6.out.below.trans (hx.below (by omega) HB6.out.below.size))
                first
                  | (go_simp
                     first
                      | (go_at_call 19; (with_reducible refine (FW.out _).mono ?_); rintro e x1 ⟨rfl, hb⟩; exact hK _ (hx.next hb))
                      | (go_at_K; exact hK _ hx)))
               exact ⟨_, rfl⟩)
            | (refine Chain.walk_no (by rfl) (by decide) ?_; simp only [Act.put, List.setIfInBounds_toArray, List.set_cons_succ, List.set_cons_zero]))
        iterate 5
          (first
              | (apply Chain.walk_quiet (by rfl) (by decide)
                 (intro p wx hp hwn hx K hK
                  obtain ⟨-, -, -, -, -, -, -, z1_7⟩ := row8 (b := w.heap.size) ((hx.other (w.heap.size) q1 (by omega)).trans HB6.out.r1)
                  obtain ⟨k0, k1, k2, k3, k4, k5, k6, k7, k8⟩ := HKC.out wx (HB6.out.below.trans (hx.below (by omega) HB6.out.below.size))
                  first
                    | (go_simp
                       first
                        | (go_at_call 19; (with_reducible refine (FW.out _).mono ?_); rintro e x1 ⟨rfl, hb⟩; exact hK _ (hx.next hb))
                        | (go_at_K; exact hK _ hx)))
                 exact ⟨_, rfl⟩)
              | (refine Chain.walk_no (by rfl) (by decide) ?_; simp only [Act.put, List.setIfInBounds_toArray, List.set_cons_succ, List.set_cons_zero]))
        apply Chain.walk_turn 0 (by rfl) (by rfl)
        · intro wx hx K hK
          exact Put.store 38 _ _ rfl rfl rfl hx (by kernel_rfl) rfl (by kernel_rfl) (fun w2 h => hK w2 h)
        · exact ⟨undef, rfl⟩
        iterate 1 (
               apply Chain.walk_quiet (by rfl) (by decide)
               (intro p wx hp hwn hx K hK
                go_simp
                (go_at_K; exact hK _ hx))
               exact ⟨_, rfl⟩)
        refine Chain.walk_nil (fun w7 hp7 => ?_)
        replace hp7 : Put (w6) (w.heap.size + 1) (.cells #[.int .i64 ua, .int .i64 ub, .int .i64 u1, .int .i64 u2, .int .i64 u3, .bool u4, .int .i64 u5, .int .i64 v1, .int .i64 v2, .int .i64 v3, .int .u32 (uc : Nat), .int .i64 us, .int .i64 ui, .bool uf] 38 (0, 0)) w7 := hp7
        try simp only [Act.put, List.setIfInBounds_toArray, List.set_cons_succ, List.set_cons_zero]
        have HB7 : Hid (Bx w [(gt, .cells #[.int .i64 f, .int .i64 d, .int .i64 r, .int .i64 pk, .float .f64 e1, .float .f64 e2, .float .f64 e3, .slice (some ⟨B, off, none⟩) cs.length cap, .int .i64 (j : Int), .int .i64 fl, .bool lv, .int .i64 dd, .bool bl, .int .u32 hu, .int .u32 hd] 67 (0, 0)), (w.heap.size, .cells #[.int .i64 f, .int .i64 d, .int .i64 r, .int .i64 pk, .float .f64 e1, .float .f64 e2, .float .f64 e3, .slice (some ⟨B, off, none⟩) cs.length cap] 27 (0, 0)), (w.heap.size + 1, .cells #[.int .i64 ua, .int .i64 ub, .int .i64 u1, .int .i64 u2, .int .i64 u3, .bool u4, .int .i64 u5, .int .i64 v1, .int .i64 v2, .int .i64 v3, .int .u32 (uc : Nat), .int .i64 us, .int .i64 ui, .bool uf] 38 (0, 0)), (w.heap.size + 2, .cells #[.int .i64 fl, .bool lv, .int .i64 dd, .bool bl] 40 (0, 0)), (w.heap.size + 3, .cells #[.int .u32 hu, .int .u32 hd] 42 (0, 0)), (w.heap.size + 4, .cells #[.int .i64 0, .int .i64 0, .int .i64 0, .int .i64 0, .int .i64 0, .bool false, .int .i64 0, .int .i64 0, .int .i64 0, .int .i64 0, .int .u32 0, .int .i64 0, .int .i64 0, .bool false] 38 (0, 0))] w7) := Lib.hid (HB6.out.ofPut (by omega) hp7 (by simp only [List.mem_cons, List.not_mem_nil, or_false]; rintro p (rfl | rfl | rfl | rfl | rfl | rfl) <;> simp <;> omega))
        clear c1_7 hp7 HB6 q0 q1 q2 q3 q4 q5
        obtain ⟨c2_0, c2_1, c2_2, c2_3, c2_4, c2_5, c2_6, c2_7, c2_8, c2_9, c2_10, c2_11, c2_12, c2_13⟩ := row14 (b := w.heap.size + 1) HB7.out.r2
        go_wp2_with (with_reducible show wpList _ _ _ (Oper.mk _ (.store 38 _ _) _ _ _ _ :: _) _ _; refine Hid.out ?_)
        refine Lib.hid ?_
        refine wpList_put rfl 38 _ _ rfl (w.heap.size + 4) #[.int .i64 ua, .int .i64 ub, .int .i64 u1, .int .i64 u2, .int .i64 u3, .bool u4, .int .i64 u5, .int .i64 v1, .int .i64 v2, .int .i64 v3, .int .u32 (uc : Nat), .int .i64 us, .int .i64 ui, .bool uf] _ 38 rfl rfl HB7.out.r5 (by kernel_rfl) rfl (by kernel_rfl) ?_
        intro w8 hr8 hg8
        have HB8 : Hid (Bx w [(gt, .cells #[.int .i64 f, .int .i64 d, .int .i64 r, .int .i64 pk, .float .f64 e1, .float .f64 e2, .float .f64 e3, .slice (some ⟨B, off, none⟩) cs.length cap, .int .i64 (j : Int), .int .i64 fl, .bool lv, .int .i64 dd, .bool bl, .int .u32 hu, .int .u32 hd] 67 (0, 0)), (w.heap.size, .cells #[.int .i64 f, .int .i64 d, .int .i64 r, .int .i64 pk, .float .f64 e1, .float .f64 e2, .float .f64 e3, .slice (some ⟨B, off, none⟩) cs.length cap] 27 (0, 0)), (w.heap.size + 1, .cells #[.int .i64 ua, .int .i64 ub, .int .i64 u1, .int .i64 u2, .int .i64 u3, .bool u4, .int .i64 u5, .int .i64 v1, .int .i64 v2, .int .i64 v3, .int .u32 (uc : Nat), .int .i64 us, .int .i64 ui, .bool uf] 38 (0, 0)), (w.heap.size + 2, .cells #[.int .i64 fl, .bool lv, .int .i64 dd, .bool bl] 40 (0, 0)), (w.heap.size + 3, .cells #[.int .u32 hu, .int .u32 hd] 42 (0, 0)), (w.heap.size + 4, .cells #[.int .i64 ua, .int .i64 ub, .int .i64 u1, .int .i64 u2, .int .i64 u3, .bool u4, .int .i64 u5, .int .i64 v1, .int .i64 v2, .int .i64 v3, .int .u32 (uc : Nat), .int .i64 us, .int .i64 ui, .bool uf] 38 (0, 0))] w8) := Lib.hid (HB7.out.put (by omega) hg8.out hr8.out (by simp only [List.mem_cons, List.not_mem_nil, or_false]; rintro p (rfl | rfl | rfl | rfl | rfl | rfl) <;> simp <;> omega))
        clear c2_0 c2_1 c2_2 c2_3 c2_4 c2_5 c2_6 c2_7 c2_8 c2_9 c2_10 c2_11 c2_12 c2_13 hr8 hg8 HB7
        go_wp2_with fail
        exact bodyPost_ret (results_row_tmp2 Tryd.results7 _ _ _ _ _ (0, 0) _ rfl HB8.out.r5 Tryd.underlying38 rfl (by kernel_rfl)) rfl (⟨rfl, HB8.out.below⟩)
      · rw [show Nc.stepG b k s x q h = (s, 0) by unfold Nc.stepG; rw [hfa, if_pos rfl]]
        clear hst hv hF hfb hg hk hw hn hca hq hh
        obtain ⟨f, d, r, pk, e1, e2, e3, cs⟩ := b
        obtain ⟨fl, lv, dd, bl⟩ := x
        obtain ⟨hu, hd⟩ := h
        obtain ⟨sd, so, ⟨d1, d2, d3, d4, d5⟩, ⟨m1, m2, m3⟩, ca, sh, il, fa⟩ := s
        simp only at hfa
        subst hfa
        simp only [BldD.agg, Fb.agg, Cs.agg, Nc.agg, tickV, CarD.agg] at *
        have HB0 := Lib.hid (bxs5 w (.cells #[.int .i64 f, .int .i64 d, .int .i64 r, .int .i64 pk, .float .f64 e1, .float .f64 e2, .float .f64 e3, .slice A cs.length cap] 27) (.cells #[.int .i64 sd, .int .i64 so, .int .i64 d1, .int .i64 d2, .int .i64 d3, .bool d4, .int .i64 d5, .int .i64 m1, .int .i64 m2, .int .i64 m3, .int .u32 ca, .int .i64 sh, .int .i64 il, .bool true] 38) (.cells #[.int .i64 fl, .bool lv, .int .i64 dd, .bool bl] 40) (.cells #[.int .u32 hu, .int .u32 hd] 42) (.cells #[.int .i64 0, .int .i64 0, .int .i64 0, .int .i64 0, .int .i64 0, .bool false, .int .i64 0, .int .i64 0, .int .i64 0, .int .i64 0, .int .u32 0, .int .i64 0, .int .i64 0, .bool false] 38))
        go_enter Tryd.func7, Tryd.ntmps7
        go_wp2_with fail
        refine (FI.out _ HB0.out.below).mono ?_
        rintro e w1 ⟨rfl, hb1⟩
        have HB1 := Lib.hid (HB0.out.next hb1)
        clear hb1 HB0
        obtain ⟨c0_0, c0_1, c0_2, c0_3, c0_4, c0_5, c0_6, c0_7⟩ := row8 (b := w.heap.size) HB1.out.r0
        obtain ⟨c1_0, c1_1, c1_2, c1_3, c1_4, c1_5, c1_6, c1_7, c1_8, c1_9, c1_10, c1_11, c1_12, c1_13⟩ := row14 (b := w.heap.size + 1) HB1.out.r1
        obtain ⟨c2_0, c2_1, c2_2, c2_3⟩ := row4 (b := w.heap.size + 2) HB1.out.r2
        go_wp2_with fail
        refine (FX.out _).mono ?_
        rintro e w2 ⟨rfl, hb2⟩
        have HB2 := Lib.hid (HB1.out.next hb2)
        clear c0_0 c0_1 c0_2 c0_3 c0_4 c0_5 c0_6 c0_7 c1_0 c1_1 c1_2 c1_3 c1_4 c1_5 c1_6 c1_7 c1_8 c1_9 c1_10 c1_11 c1_12 c1_13 c2_0 c2_1 c2_2 c2_3 hb2 HB1
        obtain ⟨c0_0, c0_1, c0_2, c0_3, c0_4, c0_5, c0_6, c0_7⟩ := row8 (b := w.heap.size) HB2.out.r0
        obtain ⟨c1_0, c1_1, c1_2, c1_3, c1_4, c1_5, c1_6, c1_7, c1_8, c1_9, c1_10, c1_11, c1_12, c1_13⟩ := row14 (b := w.heap.size + 1) HB2.out.r1
        obtain ⟨c2_0, c2_1, c2_2, c2_3⟩ := row4 (b := w.heap.size + 2) HB2.out.r2
        go_wp2_with (with_reducible show wpList _ _ _ (Oper.mk _ (.store 38 _ _) _ _ _ _ :: _) _ _; refine Hid.out ?_)
        refine Lib.hid ?_
        refine wpList_put rfl 38 _ _ rfl (w.heap.size + 4) #[.int .i64 sd, .int .i64 so, .int .i64 d1, .int .i64 d2, .int .i64 d3, .bool d4, .int .i64 d5, .int .i64 m1, .int .i64 m2, .int .i64 m3, .int .u32 ca, .int .i64 sh, .int .i64 il, .bool true] _ 38 rfl rfl HB2.out.r4 (by kernel_rfl) rfl (by kernel_rfl) ?_
        intro w3 hr3 hg3
        have HB3 : Hid (Bx w [(w.heap.size, .cells #[.int .i64 f, .int .i64 d, .int .i64 r, .int .i64 pk, .float .f64 e1, .float .f64 e2, .float .f64 e3, .slice A cs.length cap] 27 (0, 0)), (w.heap.size + 1, .cells #[.int .i64 sd, .int .i64 so, .int .i64 d1, .int .i64 d2, .int .i64 d3, .bool d4, .int .i64 d5, .int .i64 m1, .int .i64 m2, .int .i64 m3, .int .u32 ca, .int .i64 sh, .int .i64 il, .bool true] 38 (0, 0)), (w.heap.size + 2, .cells #[.int .i64 fl, .bool lv, .int .i64 dd, .bool bl] 40 (0, 0)), (w.heap.size + 3, .cells #[.int .u32 hu, .int .u32 hd] 42 (0, 0)), (w.heap.size + 4, .cells #[.int .i64 sd, .int .i64 so, .int .i64 d1, .int .i64 d2, .int .i64 d3, .bool d4, .int .i64 d5, .int .i64 m1, .int .i64 m2, .int .i64 m3, .int .u32 ca, .int .i64 sh, .int .i64 il, .bool true] 38 (0, 0))] w3) := Lib.hid (HB2.out.put (by omega) hg3.out hr3.out (by simp only [List.mem_cons, List.not_mem_nil, or_false]; rintro p (rfl | rfl | rfl | rfl | rfl) <;> simp <;> omega))
        clear c0_0 c0_1 c0_2 c0_3 c0_4 c0_5 c0_6 c0_7 c1_0 c1_1 c1_2 c1_3 c1_4 c1_5 c1_6 c1_7 c1_8 c1_9 c1_10 c1_11 c1_12 c1_13 c2_0 c2_1 c2_2 c2_3 hr3 hg3 HB2
        go_wp2_with fail
        exact bodyPost_ret (results_row_tmp2 Tryd.results7 _ _ _ _ _ (0, 0) _ rfl HB3.out.r4 Tryd.underlying38 rfl (by kernel_rfl)) rfl (⟨rfl, HB3.out.below⟩)
end Go.Proofs.YtnjcegkefjdgdaaDoor
