/- What a modernised car does next: choose, control. No statement of the seat is proved here. -/
import Derived.Test.YtnjcegkefjdgdaaDoorNcCtlB
namespace Go.Proofs.YtnjcegkefjdgdaaDoor
open Go.RowKit
set_option maxRecDepth 4000
set_option linter.unusedSimpArgs false

theorem Nc.choose_eq (b : BldD) (k : Int) (c : CarD) (x : Fb) (h : Cs) (s : Nc) (z : Cv.Ch) (o : Int) (hz : Nc.choice b.floors x h s = z) (ho : (Nc.swept b.floors x h s).so = o) :
    Nc.choose b k c x h s = if z.d_ = 3 then Nc.turnDoor c x ⟨(z.dir : Int), o, s.dr, s.mo, s.ca, (z.sh : Int), s.il, s.fa⟩ true
      else if z.d_ = 1 ∨ z.d_ = 2 then Nc.move b.floors x ⟨(z.dir : Int), o, s.dr, s.mo, s.ca, s.sh, 0, s.fa⟩ (z.d_ : Int)
      else Nc.rest b k x ⟨(z.dir : Int), o, s.dr, s.mo, s.ca, s.sh, s.il, s.fa⟩ := by
  subst hz ho
  rfl
set_option maxHeartbeats 8000000 in
theorem ncChoose_any (b : BldD) (A : Option Addr) (cap : Nat) (k : Int) (x : Fb) (h : Cs) (s : Nc) (w : World) (hw : NcW b A w) (hg : NcG b k x h) (hs : NcS s) :
    Calls Tryd.prog 40 #[tickV b A cap k x h, s.agg] w fun ee w' => ee = .returned (.tuple #[(Nc.choose b k (Nc.carAt b k) x h s).1.agg, .int .i64 (Nc.choose b k (Nc.carAt b k) x h s).2]) ∧ Below w.heap.size w w' := by
  have hF := hg.floors
  have hfl := hg.fb.1
  have hil := hs.il
  have hok : (Nc.stops s h).ok := ⟨hs.ca, hg.hall⟩
  have FT := Lib.hid (fun q wx (hb : Below w.heap.size w wx) => turnDoor_any b A cap k x h q true wx (hw.below hb) hg)
  have FM := Lib.hid (fun q m wx (hb : Below w.heap.size w wx) => ncMove_any b A cap k x h q m wx (hw.below hb))
  have FR := Lib.hid (fun q (hq : 0 ≤ q.il ∧ q.il ≤ 1000000) wx (hb : Below w.heap.size w wx) => ncRest_any b A cap k x h q wx (hw.below hb) hg hq)
  obtain ⟨F, hFe⟩ := Int.eq_ofNat_of_zero_le (show 0 ≤ b.floors by omega)
  obtain ⟨g, hge⟩ := Int.eq_ofNat_of_zero_le hfl.1
  obtain ⟨a, hae⟩ := Int.eq_ofNat_of_zero_le hs.sd.1
  obtain ⟨q, hqe⟩ := Int.eq_ofNat_of_zero_le hs.so.1
  have hs1 := hs.sd
  have hs2 := hs.so
  have FC := Lib.hid (fun wx (hb : Below w.heap.size w wx) => ChooseGood_any F g a q (Nc.stops s h) wx (by omega) (by omega) (by omega) (by omega) (by omega) hok (hw.tabs.below hb))
  have FN := Lib.hid (fun wx (hb : Below w.heap.size w wx) => NextGood_any F g a q (Nc.stops s h) wx (by omega) (by omega) (by omega) (by omega) (by omega) hok (hw.tabs.below hb))
  have hz : Nc.choice b.floors x h s = Cv.choose (Cv.look F q g (Nc.stops s h)) a := by unfold Nc.choice; rw [hFe, hge, hae, hqe]; rfl
  have ho : (Nc.swept b.floors x h s).so = (Cv.opened (Cv.cd q g (Cv.cnt F (Nc.stops s h))) (Cv.choose (Cv.look F q g (Nc.stops s h)) a) : Nat) := by rw [← hz, ← show b.floors.toNat = F by rw [hFe]; rfl, ← show x.fl.toNat = g by rw [hge]; rfl, ← show s.so.toNat = q by rw [hqe]; rfl]; rfl
  rw [Nc.choose_eq b k (Nc.carAt b k) x h s _ _ hz ho]
  clear hz ho
  simp only [nextF] at FN
  rw [← hFe, ← hge, ← hae, ← hqe] at FC FN
  generalize ((Cv.opened (Cv.cd q g (Cv.cnt F (Nc.stops s h))) (Cv.choose (Cv.look F q g (Nc.stops s h)) a) : Nat) : Int) = op at *
  generalize Cv.choose (Cv.look F q g (Nc.stops s h)) a = z at *
  clear hF hfl hFe hge hae hqe hs1 hs2 hok hs hw
  obtain ⟨z1, z2, z3⟩ := z
  simp only [Nc.stops, Stp.agg, Cv.Ch.agg] at *
  clear F g a q
  by_cases h3 : z1 = 3
  · subst h3
    rw [if_pos rfl]
    clear FM FR
    have FT := Lib.hid (FT.out ⟨(z2 : Int), op, s.dr, s.mo, s.ca, (z3 : Int), s.il, s.fa⟩)
    generalize Nc.turnDoor (Nc.carAt b k) x ⟨(z2 : Int), op, s.dr, s.mo, s.ca, (z3 : Int), s.il, s.fa⟩ true = t at *
    obtain ⟨⟨ua, ub, ⟨u1, u2, u3, u4, u5⟩, ⟨v1, v2, v3⟩, uc, us, ui, uf⟩, um⟩ := t
    clear hil hg
    have e3 : ((3 : Nat) : Int) = 3 := rfl
    simp only [e3] at FC
    clear e3
    obtain ⟨f, d, r, pk, e1, e2, e3, cs⟩ := b
    obtain ⟨fl, lv, dd, bl⟩ := x
    obtain ⟨hu, hd⟩ := h
    obtain ⟨sd, so, ⟨d1, d2, d3, d4, d5⟩, ⟨m1, m2, m3⟩, ca, sh, il, fa⟩ := s
    simp only [tickV, Nc.agg, BldD.agg, Fb.agg, Dr.agg, Mo.agg, Cs.agg] at *
    have HB0 := Lib.hid (bxs3 w (.cells #[.int .i64 f, .int .i64 d, .int .i64 r, .int .i64 pk, .float .f64 e1, .float .f64 e2, .float .f64 e3, .slice A cs.length cap, .int .i64 k, .int .i64 fl, .bool lv, .int .i64 dd, .bool bl, .int .u32 hu, .int .u32 hd] 67) (.cells #[.int .i64 sd, .int .i64 so, .int .i64 d1, .int .i64 d2, .int .i64 d3, .bool d4, .int .i64 d5, .int .i64 m1, .int .i64 m2, .int .i64 m3, .int .u32 ca, .int .i64 sh, .int .i64 il, .bool fa] 38) (.cells #[.int .i64 0, .int .i64 0, .int .i64 0, .int .i64 0, .int .i64 0, .bool false, .int .i64 0, .int .i64 0, .int .i64 0, .int .i64 0, .int .u32 0, .int .i64 0, .int .i64 0, .bool false] 38))
    go_enter Tryd.func40, Tryd.ntmps40
    go_wp2_with (with_reducible show wpList _ _ _ (Oper.mk _ (.load 36 _) _ _ _ _ :: _) _ _; refine Hid.out ?_)
    refine Lib.hid ?_
    generalize hWW : ((w.alloc _).alloc _).alloc _ = W1 at *
    clear hWW
    obtain ⟨-, -, -, -, -, -, -, -, -, -, -, -, -, c0_13, c0_14⟩ := row15 (b := w.heap.size) HB0.out.r0
    obtain ⟨-, -, -, -, -, -, -, -, -, -, c1_10, -⟩ := row14 (b := w.heap.size + 1) HB0.out.r1
    go_wp2_with (with_reducible show wpList _ _ _ (Oper.mk _ (.store 105 _ _) _ _ _ _ :: _) _ _; refine Hid.out ?_)
    refine Lib.hid ?_
    have l1_0 : w.heap.size < W1.heap.size := (Array.getElem?_eq_some_iff.1 HB0.out.r0).1
    have l1_1 : w.heap.size + 1 < W1.heap.size := (Array.getElem?_eq_some_iff.1 HB0.out.r1).1
    have l1_2 : w.heap.size + 2 < W1.heap.size := (Array.getElem?_eq_some_iff.1 HB0.out.r2).1
    have lw1 : w.heap.size ≤ W1.heap.size := HB0.out.below.size
    refine wpList_put rfl 105 _ _ rfl W1.heap.size #[.int .u32 ca, .int .u32 hu, .int .u32 hd] _ 105 rfl rfl (heap_alloc_new W1 _) (by kernel_rfl) rfl (by kernel_rfl) ?_
    intro w1 hr1 hg1
    have HB1 : Hid (Bx w [(W1.heap.size, .cells #[.int .u32 ca, .int .u32 hu, .int .u32 hd] 105 (0, 0)), (w.heap.size, .cells #[.int .i64 f, .int .i64 d, .int .i64 r, .int .i64 pk, .float .f64 e1, .float .f64 e2, .float .f64 e3, .slice A cs.length cap, .int .i64 k, .int .i64 fl, .bool lv, .int .i64 dd, .bool bl, .int .u32 hu, .int .u32 hd] 67 (0, 0)), (w.heap.size + 1, .cells #[.int .i64 sd, .int .i64 so, .int .i64 d1, .int .i64 d2, .int .i64 d3, .bool d4, .int .i64 d5, .int .i64 m1, .int .i64 m2, .int .i64 m3, .int .u32 ca, .int .i64 sh, .int .i64 il, .bool fa] 38 (0, 0)), (w.heap.size + 2, .cells #[.int .i64 0, .int .i64 0, .int .i64 0, .int .i64 0, .int .i64 0, .bool false, .int .i64 0, .int .i64 0, .int .i64 0, .int .i64 0, .int .u32 0, .int .i64 0, .int .i64 0, .bool false] 38 (0, 0))] w1) := Lib.hid ((HB0.out.make (heap_alloc_new W1 (.cells #[.int .u32 0, .int .u32 0, .int .u32 0] 105)) ((Below.refl W1.heap.size W1).alloc (Nat.le_refl _) _)).put HB0.out.below.size hg1.out hr1.out (by simp only [List.mem_cons, List.not_mem_nil, or_false]; rintro p (rfl | rfl | rfl | rfl) <;> simp <;> omega))
    clear c0_13 c0_14 c1_10 hr1 hg1 HB0
    generalize W1.heap.size = gs at *
    obtain ⟨c0_0, c0_1, c0_2⟩ := row3 (b := gs) HB1.out.r0
    obtain ⟨c1_0, -, -, -, -, -, -, -, -, c1_9, -⟩ := row15 (b := w.heap.size) HB1.out.r1
    obtain ⟨c2_0, c2_1, -⟩ := row14 (b := w.heap.size + 1) HB1.out.r2
    go_wp2_with fail
    refine (FC.out _ HB1.out.below).mono ?_
    rintro e w2 ⟨rfl, hb2⟩
    have HB2 := Lib.hid (HB1.out.next hb2)
    clear c0_0 c0_1 c0_2 c1_0 c1_9 c2_0 c2_1 hb2 HB1
    obtain ⟨c0_0, c0_1, c0_2⟩ := row3 (b := gs) HB2.out.r0
    obtain ⟨c1_0, -, -, -, -, -, -, -, -, c1_9, -⟩ := row15 (b := w.heap.size) HB2.out.r1
    obtain ⟨c2_0, c2_1, -⟩ := row14 (b := w.heap.size + 1) HB2.out.r2
    go_wp2_with (with_reducible show wpList _ _ _ (Oper.mk _ (.store 107 _ _) _ _ _ _ :: _) _ _; refine Hid.out ?_)
    refine Lib.hid ?_
    have l3_0 : gs < w2.heap.size := (Array.getElem?_eq_some_iff.1 HB2.out.r0).1
    have l3_1 : w.heap.size < w2.heap.size := (Array.getElem?_eq_some_iff.1 HB2.out.r1).1
    have l3_2 : w.heap.size + 1 < w2.heap.size := (Array.getElem?_eq_some_iff.1 HB2.out.r2).1
    have l3_3 : w.heap.size + 2 < w2.heap.size := (Array.getElem?_eq_some_iff.1 HB2.out.r3).1
    have lw3 : w.heap.size ≤ w2.heap.size := HB2.out.below.size
    refine wpList_put rfl 107 _ _ rfl w2.heap.size #[.int .i64 3, .int .i64 (z2 : Int), .int .i64 (z3 : Int)] _ 107 rfl rfl (heap_alloc_new w2 _) (by kernel_rfl) rfl (by kernel_rfl) ?_
    intro w3 hr3 hg3
    have HB3 : Hid (Bx w [(w2.heap.size, .cells #[.int .i64 3, .int .i64 (z2 : Int), .int .i64 (z3 : Int)] 107 (0, 0)), (gs, .cells #[.int .u32 ca, .int .u32 hu, .int .u32 hd] 105 (0, 0)), (w.heap.size, .cells #[.int .i64 f, .int .i64 d, .int .i64 r, .int .i64 pk, .float .f64 e1, .float .f64 e2, .float .f64 e3, .slice A cs.length cap, .int .i64 k, .int .i64 fl, .bool lv, .int .i64 dd, .bool bl, .int .u32 hu, .int .u32 hd] 67 (0, 0)), (w.heap.size + 1, .cells #[.int .i64 sd, .int .i64 so, .int .i64 d1, .int .i64 d2, .int .i64 d3, .bool d4, .int .i64 d5, .int .i64 m1, .int .i64 m2, .int .i64 m3, .int .u32 ca, .int .i64 sh, .int .i64 il, .bool fa] 38 (0, 0)), (w.heap.size + 2, .cells #[.int .i64 0, .int .i64 0, .int .i64 0, .int .i64 0, .int .i64 0, .bool false, .int .i64 0, .int .i64 0, .int .i64 0, .int .i64 0, .int .u32 0, .int .i64 0, .int .i64 0, .bool false] 38 (0, 0))] w3) := Lib.hid ((HB2.out.make (heap_alloc_new w2 (.cells #[.int .i64 0, .int .i64 0, .int .i64 0] 107)) ((Below.refl w2.heap.size w2).alloc (Nat.le_refl _) _)).put HB2.out.below.size hg3.out hr3.out (by simp only [List.mem_cons, List.not_mem_nil, or_false]; rintro p (rfl | rfl | rfl | rfl | rfl) <;> simp <;> omega))
    clear c0_0 c0_1 c0_2 c1_0 c1_9 c2_0 c2_1 hr3 hg3 HB2
    generalize w2.heap.size = gc at *
    obtain ⟨c1_0, c1_1, c1_2⟩ := row3 (b := gs) HB3.out.r1
    obtain ⟨c2_0, -, -, -, -, -, -, -, -, c2_9, -⟩ := row15 (b := w.heap.size) HB3.out.r2
    obtain ⟨c3_0, c3_1, -⟩ := row14 (b := w.heap.size + 1) HB3.out.r3
    go_wp2_with fail
    refine (FN.out _ HB3.out.below).mono ?_
    rintro e w4 ⟨rfl, hb4⟩
    have HB4 := Lib.hid (HB3.out.next hb4)
    clear c1_0 c1_1 c1_2 c2_0 c2_9 c3_0 c3_1 hb4 HB3
    go_wp2_with (with_reducible show wpList _ _ _ (Oper.mk _ (.store 31 _ _) _ _ _ _ :: _) _ _; refine Hid.out ?_)
    refine Lib.hid ?_
    refine wpList_putPart rfl 31 _ _ rfl (w.heap.size + 1) 0 #[.int .i64 (z2 : Int), .int .i64 op] _ #[.int .i64 (z2 : Int), .int .i64 op, .int .i64 d1, .int .i64 d2, .int .i64 d3, .bool d4, .int .i64 d5, .int .i64 m1, .int .i64 m2, .int .i64 m3, .int .u32 ca, .int .i64 sh, .int .i64 il, .bool fa] 38 rfl rfl HB4.out.r3 (by kernel_rfl) (by simp) (by kernel_rfl) rfl ?_
    intro w5 hr5 hg5
    have HB5 : Hid (Bx w [(gc, .cells #[.int .i64 3, .int .i64 (z2 : Int), .int .i64 (z3 : Int)] 107 (0, 0)), (gs, .cells #[.int .u32 ca, .int .u32 hu, .int .u32 hd] 105 (0, 0)), (w.heap.size, .cells #[.int .i64 f, .int .i64 d, .int .i64 r, .int .i64 pk, .float .f64 e1, .float .f64 e2, .float .f64 e3, .slice A cs.length cap, .int .i64 k, .int .i64 fl, .bool lv, .int .i64 dd, .bool bl, .int .u32 hu, .int .u32 hd] 67 (0, 0)), (w.heap.size + 1, .cells #[.int .i64 (z2 : Int), .int .i64 op, .int .i64 d1, .int .i64 d2, .int .i64 d3, .bool d4, .int .i64 d5, .int .i64 m1, .int .i64 m2, .int .i64 m3, .int .u32 ca, .int .i64 sh, .int .i64 il, .bool fa] 38 (0, 0)), (w.heap.size + 2, .cells #[.int .i64 0, .int .i64 0, .int .i64 0, .int .i64 0, .int .i64 0, .bool false, .int .i64 0, .int .i64 0, .int .i64 0, .int .i64 0, .int .u32 0, .int .i64 0, .int .i64 0, .bool false] 38 (0, 0))] w5) := Lib.hid (HB4.out.put (by omega) hg5.out hr5.out (by simp only [List.mem_cons, List.not_mem_nil, or_false]; rintro p (rfl | rfl | rfl | rfl | rfl) <;> simp <;> omega))
    clear hr5 hg5 HB4
    obtain ⟨c0_0, c0_1, c0_2⟩ := row3 (b := gc) HB5.out.r0
    obtain ⟨c2_0, c2_1, c2_2, c2_3, c2_4, c2_5, c2_6, c2_7, c2_8, c2_9, c2_10, c2_11, c2_12, c2_13, c2_14⟩ := row15 (b := w.heap.size) HB5.out.r2
    obtain ⟨c3_0, c3_1, c3_2, c3_3, c3_4, c3_5, c3_6, c3_7, c3_8, c3_9, c3_10, c3_11, c3_12, c3_13⟩ := row14 (b := w.heap.size + 1) HB5.out.r3
    go_wp2_with (with_reducible show wpList _ _ _ (Oper.mk _ (.store 3 _ _) _ _ _ _ :: _) _ _; refine Hid.out ?_)
    refine Lib.hid ?_
    refine wpList_putCell rfl 3 _ _ rfl (w.heap.size + 1) 11 (.int .i64 (z3 : Int)) _ _ 38 rfl rfl HB5.out.r3 (by kernel_rfl) (by simp) rfl rfl rfl ?_
    intro w6 hr6 hg6
    have HB6 : Hid (Bx w [(gc, .cells #[.int .i64 3, .int .i64 (z2 : Int), .int .i64 (z3 : Int)] 107 (0, 0)), (gs, .cells #[.int .u32 ca, .int .u32 hu, .int .u32 hd] 105 (0, 0)), (w.heap.size, .cells #[.int .i64 f, .int .i64 d, .int .i64 r, .int .i64 pk, .float .f64 e1, .float .f64 e2, .float .f64 e3, .slice A cs.length cap, .int .i64 k, .int .i64 fl, .bool lv, .int .i64 dd, .bool bl, .int .u32 hu, .int .u32 hd] 67 (0, 0)), (w.heap.size + 1, .cells #[.int .i64 (z2 : Int), .int .i64 op, .int .i64 d1, .int .i64 d2, .int .i64 d3, .bool d4, .int .i64 d5, .int .i64 m1, .int .i64 m2, .int .i64 m3, .int .u32 ca, .int .i64 (z3 : Int), .int .i64 il, .bool fa] 38 (0, 0)), (w.heap.size + 2, .cells #[.int .i64 0, .int .i64 0, .int .i64 0, .int .i64 0, .int .i64 0, .bool false, .int .i64 0, .int .i64 0, .int .i64 0, .int .i64 0, .int .u32 0, .int .i64 0, .int .i64 0, .bool false] 38 (0, 0))] w6) := Lib.hid (HB5.out.put (by omega) hg6.out hr6.out (by simp only [List.mem_cons, List.not_mem_nil, or_false]; rintro p (rfl | rfl | rfl | rfl | rfl) <;> simp <;> omega))
    clear c0_0 c0_1 c0_2 c2_0 c2_1 c2_2 c2_3 c2_4 c2_5 c2_6 c2_7 c2_8 c2_9 c2_10 c2_11 c2_12 c2_13 c2_14 c3_0 c3_1 c3_2 c3_3 c3_4 c3_5 c3_6 c3_7 c3_8 c3_9 c3_10 c3_11 c3_12 c3_13 hr6 hg6 HB5
    obtain ⟨c0_0, c0_1, c0_2⟩ := row3 (b := gc) HB6.out.r0
    obtain ⟨c2_0, c2_1, c2_2, c2_3, c2_4, c2_5, c2_6, c2_7, c2_8, c2_9, c2_10, c2_11, c2_12, c2_13, c2_14⟩ := row15 (b := w.heap.size) HB6.out.r2
    obtain ⟨c3_0, c3_1, c3_2, c3_3, c3_4, c3_5, c3_6, c3_7, c3_8, c3_9, c3_10, c3_11, c3_12, c3_13⟩ := row14 (b := w.heap.size + 1) HB6.out.r3
    go_wp2_with fail
    refine (FT.out _ HB6.out.below).mono ?_
    rintro e w7 ⟨rfl, hb7⟩
    have HB7 := Lib.hid (HB6.out.next hb7)
    clear c0_0 c0_1 c0_2 c2_0 c2_1 c2_2 c2_3 c2_4 c2_5 c2_6 c2_7 c2_8 c2_9 c2_10 c2_11 c2_12 c2_13 c2_14 c3_0 c3_1 c3_2 c3_3 c3_4 c3_5 c3_6 c3_7 c3_8 c3_9 c3_10 c3_11 c3_12 c3_13 hb7 HB6
    obtain ⟨c0_0, c0_1, c0_2⟩ := row3 (b := gc) HB7.out.r0
    obtain ⟨c2_0, c2_1, c2_2, c2_3, c2_4, c2_5, c2_6, c2_7, c2_8, c2_9, c2_10, c2_11, c2_12, c2_13, c2_14⟩ := row15 (b := w.heap.size) HB7.out.r2
    obtain ⟨c3_0, c3_1, c3_2, c3_3, c3_4, c3_5, c3_6, c3_7, c3_8, c3_9, c3_10, c3_11, c3_12, c3_13⟩ := row14 (b := w.heap.size + 1) HB7.out.r3
    go_wp2_with (with_reducible show wpList _ _ _ (Oper.mk _ (.store 38 _ _) _ _ _ _ :: _) _ _; refine Hid.out ?_)
    refine Lib.hid ?_
    refine wpList_put rfl 38 _ _ rfl (w.heap.size + 2) #[.int .i64 ua, .int .i64 ub, .int .i64 u1, .int .i64 u2, .int .i64 u3, .bool u4, .int .i64 u5, .int .i64 v1, .int .i64 v2, .int .i64 v3, .int .u32 (uc : Nat), .int .i64 us, .int .i64 ui, .bool uf] _ 38 rfl rfl HB7.out.r4 (by kernel_rfl) rfl (by kernel_rfl) ?_
    intro w8 hr8 hg8
    have HB8 : Hid (Bx w [(gc, .cells #[.int .i64 3, .int .i64 (z2 : Int), .int .i64 (z3 : Int)] 107 (0, 0)), (gs, .cells #[.int .u32 ca, .int .u32 hu, .int .u32 hd] 105 (0, 0)), (w.heap.size, .cells #[.int .i64 f, .int .i64 d, .int .i64 r, .int .i64 pk, .float .f64 e1, .float .f64 e2, .float .f64 e3, .slice A cs.length cap, .int .i64 k, .int .i64 fl, .bool lv, .int .i64 dd, .bool bl, .int .u32 hu, .int .u32 hd] 67 (0, 0)), (w.heap.size + 1, .cells #[.int .i64 (z2 : Int), .int .i64 op, .int .i64 d1, .int .i64 d2, .int .i64 d3, .bool d4, .int .i64 d5, .int .i64 m1, .int .i64 m2, .int .i64 m3, .int .u32 ca, .int .i64 (z3 : Int), .int .i64 il, .bool fa] 38 (0, 0)), (w.heap.size + 2, .cells #[.int .i64 ua, .int .i64 ub, .int .i64 u1, .int .i64 u2, .int .i64 u3, .bool u4, .int .i64 u5, .int .i64 v1, .int .i64 v2, .int .i64 v3, .int .u32 (uc : Nat), .int .i64 us, .int .i64 ui, .bool uf] 38 (0, 0))] w8) := Lib.hid (HB7.out.put (by omega) hg8.out hr8.out (by simp only [List.mem_cons, List.not_mem_nil, or_false]; rintro p (rfl | rfl | rfl | rfl | rfl) <;> simp <;> omega))
    clear c0_0 c0_1 c0_2 c2_0 c2_1 c2_2 c2_3 c2_4 c2_5 c2_6 c2_7 c2_8 c2_9 c2_10 c2_11 c2_12 c2_13 c2_14 c3_0 c3_1 c3_2 c3_3 c3_4 c3_5 c3_6 c3_7 c3_8 c3_9 c3_10 c3_11 c3_12 c3_13 hr8 hg8 HB7
    go_wp2_with fail
    exact bodyPost_ret (results_row_tmp Tryd.results40 _ _ _ _ _ (0, 0) _ rfl HB8.out.r4 Tryd.underlying38 rfl (by kernel_rfl)) rfl (⟨rfl, HB8.out.below⟩)
  by_cases h1 : z1 = 1
  · subst h1
    rw [if_neg (by decide), if_pos (by decide)]
    clear FT FR h3
    have FM := Lib.hid (FM.out ⟨(z2 : Int), op, s.dr, s.mo, s.ca, s.sh, 0, s.fa⟩ ((1 : Nat) : Int))
    generalize Nc.move b.floors x ⟨(z2 : Int), op, s.dr, s.mo, s.ca, s.sh, 0, s.fa⟩ ((1 : Nat) : Int) = t at *
    obtain ⟨⟨ua, ub, ⟨u1, u2, u3, u4, u5⟩, ⟨v1, v2, v3⟩, uc, us, ui, uf⟩, um⟩ := t
    clear hil hg
    have e3 : ((1 : Nat) : Int) = 1 := rfl
    simp only [e3] at FC FM
    clear e3
    obtain ⟨f, d, r, pk, e1, e2, e3, cs⟩ := b
    obtain ⟨fl, lv, dd, bl⟩ := x
    obtain ⟨hu, hd⟩ := h
    obtain ⟨sd, so, ⟨d1, d2, d3, d4, d5⟩, ⟨m1, m2, m3⟩, ca, sh, il, fa⟩ := s
    simp only [tickV, Nc.agg, BldD.agg, Fb.agg, Dr.agg, Mo.agg, Cs.agg] at *
    have HB0 := Lib.hid (bxs3 w (.cells #[.int .i64 f, .int .i64 d, .int .i64 r, .int .i64 pk, .float .f64 e1, .float .f64 e2, .float .f64 e3, .slice A cs.length cap, .int .i64 k, .int .i64 fl, .bool lv, .int .i64 dd, .bool bl, .int .u32 hu, .int .u32 hd] 67) (.cells #[.int .i64 sd, .int .i64 so, .int .i64 d1, .int .i64 d2, .int .i64 d3, .bool d4, .int .i64 d5, .int .i64 m1, .int .i64 m2, .int .i64 m3, .int .u32 ca, .int .i64 sh, .int .i64 il, .bool fa] 38) (.cells #[.int .i64 0, .int .i64 0, .int .i64 0, .int .i64 0, .int .i64 0, .bool false, .int .i64 0, .int .i64 0, .int .i64 0, .int .i64 0, .int .u32 0, .int .i64 0, .int .i64 0, .bool false] 38))
    go_enter Tryd.func40, Tryd.ntmps40
    go_wp2_with (with_reducible show wpList _ _ _ (Oper.mk _ (.load 36 _) _ _ _ _ :: _) _ _; refine Hid.out ?_)
    refine Lib.hid ?_
    generalize hWW : ((w.alloc _).alloc _).alloc _ = W1 at *
    clear hWW
    obtain ⟨-, -, -, -, -, -, -, -, -, -, -, -, -, c0_13, c0_14⟩ := row15 (b := w.heap.size) HB0.out.r0
    obtain ⟨-, -, -, -, -, -, -, -, -, -, c1_10, -⟩ := row14 (b := w.heap.size + 1) HB0.out.r1
    go_wp2_with (with_reducible show wpList _ _ _ (Oper.mk _ (.store 105 _ _) _ _ _ _ :: _) _ _; refine Hid.out ?_)
    refine Lib.hid ?_
    have l1_0 : w.heap.size < W1.heap.size := (Array.getElem?_eq_some_iff.1 HB0.out.r0).1
    have l1_1 : w.heap.size + 1 < W1.heap.size := (Array.getElem?_eq_some_iff.1 HB0.out.r1).1
    have l1_2 : w.heap.size + 2 < W1.heap.size := (Array.getElem?_eq_some_iff.1 HB0.out.r2).1
    have lw1 : w.heap.size ≤ W1.heap.size := HB0.out.below.size
    refine wpList_put rfl 105 _ _ rfl W1.heap.size #[.int .u32 ca, .int .u32 hu, .int .u32 hd] _ 105 rfl rfl (heap_alloc_new W1 _) (by kernel_rfl) rfl (by kernel_rfl) ?_
    intro w1 hr1 hg1
    have HB1 : Hid (Bx w [(W1.heap.size, .cells #[.int .u32 ca, .int .u32 hu, .int .u32 hd] 105 (0, 0)), (w.heap.size, .cells #[.int .i64 f, .int .i64 d, .int .i64 r, .int .i64 pk, .float .f64 e1, .float .f64 e2, .float .f64 e3, .slice A cs.length cap, .int .i64 k, .int .i64 fl, .bool lv, .int .i64 dd, .bool bl, .int .u32 hu, .int .u32 hd] 67 (0, 0)), (w.heap.size + 1, .cells #[.int .i64 sd, .int .i64 so, .int .i64 d1, .int .i64 d2, .int .i64 d3, .bool d4, .int .i64 d5, .int .i64 m1, .int .i64 m2, .int .i64 m3, .int .u32 ca, .int .i64 sh, .int .i64 il, .bool fa] 38 (0, 0)), (w.heap.size + 2, .cells #[.int .i64 0, .int .i64 0, .int .i64 0, .int .i64 0, .int .i64 0, .bool false, .int .i64 0, .int .i64 0, .int .i64 0, .int .i64 0, .int .u32 0, .int .i64 0, .int .i64 0, .bool false] 38 (0, 0))] w1) := Lib.hid ((HB0.out.make (heap_alloc_new W1 (.cells #[.int .u32 0, .int .u32 0, .int .u32 0] 105)) ((Below.refl W1.heap.size W1).alloc (Nat.le_refl _) _)).put HB0.out.below.size hg1.out hr1.out (by simp only [List.mem_cons, List.not_mem_nil, or_false]; rintro p (rfl | rfl | rfl | rfl) <;> simp <;> omega))
    clear c0_13 c0_14 c1_10 hr1 hg1 HB0
    generalize W1.heap.size = gs at *
    obtain ⟨c0_0, c0_1, c0_2⟩ := row3 (b := gs) HB1.out.r0
    obtain ⟨c1_0, -, -, -, -, -, -, -, -, c1_9, -⟩ := row15 (b := w.heap.size) HB1.out.r1
    obtain ⟨c2_0, c2_1, -⟩ := row14 (b := w.heap.size + 1) HB1.out.r2
    go_wp2_with fail
    refine (FC.out _ HB1.out.below).mono ?_
    rintro e w2 ⟨rfl, hb2⟩
    have HB2 := Lib.hid (HB1.out.next hb2)
    clear c0_0 c0_1 c0_2 c1_0 c1_9 c2_0 c2_1 hb2 HB1
    obtain ⟨c0_0, c0_1, c0_2⟩ := row3 (b := gs) HB2.out.r0
    obtain ⟨c1_0, -, -, -, -, -, -, -, -, c1_9, -⟩ := row15 (b := w.heap.size) HB2.out.r1
    obtain ⟨c2_0, c2_1, -⟩ := row14 (b := w.heap.size + 1) HB2.out.r2
    go_wp2_with (with_reducible show wpList _ _ _ (Oper.mk _ (.store 107 _ _) _ _ _ _ :: _) _ _; refine Hid.out ?_)
    refine Lib.hid ?_
    have l3_0 : gs < w2.heap.size := (Array.getElem?_eq_some_iff.1 HB2.out.r0).1
    have l3_1 : w.heap.size < w2.heap.size := (Array.getElem?_eq_some_iff.1 HB2.out.r1).1
    have l3_2 : w.heap.size + 1 < w2.heap.size := (Array.getElem?_eq_some_iff.1 HB2.out.r2).1
    have l3_3 : w.heap.size + 2 < w2.heap.size := (Array.getElem?_eq_some_iff.1 HB2.out.r3).1
    have lw3 : w.heap.size ≤ w2.heap.size := HB2.out.below.size
    refine wpList_put rfl 107 _ _ rfl w2.heap.size #[.int .i64 1, .int .i64 (z2 : Int), .int .i64 (z3 : Int)] _ 107 rfl rfl (heap_alloc_new w2 _) (by kernel_rfl) rfl (by kernel_rfl) ?_
    intro w3 hr3 hg3
    have HB3 : Hid (Bx w [(w2.heap.size, .cells #[.int .i64 1, .int .i64 (z2 : Int), .int .i64 (z3 : Int)] 107 (0, 0)), (gs, .cells #[.int .u32 ca, .int .u32 hu, .int .u32 hd] 105 (0, 0)), (w.heap.size, .cells #[.int .i64 f, .int .i64 d, .int .i64 r, .int .i64 pk, .float .f64 e1, .float .f64 e2, .float .f64 e3, .slice A cs.length cap, .int .i64 k, .int .i64 fl, .bool lv, .int .i64 dd, .bool bl, .int .u32 hu, .int .u32 hd] 67 (0, 0)), (w.heap.size + 1, .cells #[.int .i64 sd, .int .i64 so, .int .i64 d1, .int .i64 d2, .int .i64 d3, .bool d4, .int .i64 d5, .int .i64 m1, .int .i64 m2, .int .i64 m3, .int .u32 ca, .int .i64 sh, .int .i64 il, .bool fa] 38 (0, 0)), (w.heap.size + 2, .cells #[.int .i64 0, .int .i64 0, .int .i64 0, .int .i64 0, .int .i64 0, .bool false, .int .i64 0, .int .i64 0, .int .i64 0, .int .i64 0, .int .u32 0, .int .i64 0, .int .i64 0, .bool false] 38 (0, 0))] w3) := Lib.hid ((HB2.out.make (heap_alloc_new w2 (.cells #[.int .i64 0, .int .i64 0, .int .i64 0] 107)) ((Below.refl w2.heap.size w2).alloc (Nat.le_refl _) _)).put HB2.out.below.size hg3.out hr3.out (by simp only [List.mem_cons, List.not_mem_nil, or_false]; rintro p (rfl | rfl | rfl | rfl | rfl) <;> simp <;> omega))
    clear c0_0 c0_1 c0_2 c1_0 c1_9 c2_0 c2_1 hr3 hg3 HB2
    generalize w2.heap.size = gc at *
    obtain ⟨c1_0, c1_1, c1_2⟩ := row3 (b := gs) HB3.out.r1
    obtain ⟨c2_0, -, -, -, -, -, -, -, -, c2_9, -⟩ := row15 (b := w.heap.size) HB3.out.r2
    obtain ⟨c3_0, c3_1, -⟩ := row14 (b := w.heap.size + 1) HB3.out.r3
    go_wp2_with fail
    refine (FN.out _ HB3.out.below).mono ?_
    rintro e w4 ⟨rfl, hb4⟩
    have HB4 := Lib.hid (HB3.out.next hb4)
    clear c1_0 c1_1 c1_2 c2_0 c2_9 c3_0 c3_1 hb4 HB3
    go_wp2_with (with_reducible show wpList _ _ _ (Oper.mk _ (.store 31 _ _) _ _ _ _ :: _) _ _; refine Hid.out ?_)
    refine Lib.hid ?_
    refine wpList_putPart rfl 31 _ _ rfl (w.heap.size + 1) 0 #[.int .i64 (z2 : Int), .int .i64 op] _ #[.int .i64 (z2 : Int), .int .i64 op, .int .i64 d1, .int .i64 d2, .int .i64 d3, .bool d4, .int .i64 d5, .int .i64 m1, .int .i64 m2, .int .i64 m3, .int .u32 ca, .int .i64 sh, .int .i64 il, .bool fa] 38 rfl rfl HB4.out.r3 (by kernel_rfl) (by simp) (by kernel_rfl) rfl ?_
    intro w5 hr5 hg5
    have HB5 : Hid (Bx w [(gc, .cells #[.int .i64 1, .int .i64 (z2 : Int), .int .i64 (z3 : Int)] 107 (0, 0)), (gs, .cells #[.int .u32 ca, .int .u32 hu, .int .u32 hd] 105 (0, 0)), (w.heap.size, .cells #[.int .i64 f, .int .i64 d, .int .i64 r, .int .i64 pk, .float .f64 e1, .float .f64 e2, .float .f64 e3, .slice A cs.length cap, .int .i64 k, .int .i64 fl, .bool lv, .int .i64 dd, .bool bl, .int .u32 hu, .int .u32 hd] 67 (0, 0)), (w.heap.size + 1, .cells #[.int .i64 (z2 : Int), .int .i64 op, .int .i64 d1, .int .i64 d2, .int .i64 d3, .bool d4, .int .i64 d5, .int .i64 m1, .int .i64 m2, .int .i64 m3, .int .u32 ca, .int .i64 sh, .int .i64 il, .bool fa] 38 (0, 0)), (w.heap.size + 2, .cells #[.int .i64 0, .int .i64 0, .int .i64 0, .int .i64 0, .int .i64 0, .bool false, .int .i64 0, .int .i64 0, .int .i64 0, .int .i64 0, .int .u32 0, .int .i64 0, .int .i64 0, .bool false] 38 (0, 0))] w5) := Lib.hid (HB4.out.put (by omega) hg5.out hr5.out (by simp only [List.mem_cons, List.not_mem_nil, or_false]; rintro p (rfl | rfl | rfl | rfl | rfl) <;> simp <;> omega))
    clear hr5 hg5 HB4
    obtain ⟨c0_0, c0_1, c0_2⟩ := row3 (b := gc) HB5.out.r0
    obtain ⟨c2_0, c2_1, c2_2, c2_3, c2_4, c2_5, c2_6, c2_7, c2_8, c2_9, c2_10, c2_11, c2_12, c2_13, c2_14⟩ := row15 (b := w.heap.size) HB5.out.r2
    obtain ⟨c3_0, c3_1, c3_2, c3_3, c3_4, c3_5, c3_6, c3_7, c3_8, c3_9, c3_10, c3_11, c3_12, c3_13⟩ := row14 (b := w.heap.size + 1) HB5.out.r3
    go_wp2_with (with_reducible show wpList _ _ _ (Oper.mk _ (.store 3 _ _) _ _ _ _ :: _) _ _; refine Hid.out ?_)
    refine Lib.hid ?_
    refine wpList_putCell rfl 3 _ _ rfl (w.heap.size + 1) 12 (.int .i64 0) _ _ 38 rfl rfl HB5.out.r3 (by kernel_rfl) (by simp) rfl rfl rfl ?_
    intro w6 hr6 hg6
    have HB6 : Hid (Bx w [(gc, .cells #[.int .i64 1, .int .i64 (z2 : Int), .int .i64 (z3 : Int)] 107 (0, 0)), (gs, .cells #[.int .u32 ca, .int .u32 hu, .int .u32 hd] 105 (0, 0)), (w.heap.size, .cells #[.int .i64 f, .int .i64 d, .int .i64 r, .int .i64 pk, .float .f64 e1, .float .f64 e2, .float .f64 e3, .slice A cs.length cap, .int .i64 k, .int .i64 fl, .bool lv, .int .i64 dd, .bool bl, .int .u32 hu, .int .u32 hd] 67 (0, 0)), (w.heap.size + 1, .cells #[.int .i64 (z2 : Int), .int .i64 op, .int .i64 d1, .int .i64 d2, .int .i64 d3, .bool d4, .int .i64 d5, .int .i64 m1, .int .i64 m2, .int .i64 m3, .int .u32 ca, .int .i64 sh, .int .i64 0, .bool fa] 38 (0, 0)), (w.heap.size + 2, .cells #[.int .i64 0, .int .i64 0, .int .i64 0, .int .i64 0, .int .i64 0, .bool false, .int .i64 0, .int .i64 0, .int .i64 0, .int .i64 0, .int .u32 0, .int .i64 0, .int .i64 0, .bool false] 38 (0, 0))] w6) := Lib.hid (HB5.out.put (by omega) hg6.out hr6.out (by simp only [List.mem_cons, List.not_mem_nil, or_false]; rintro p (rfl | rfl | rfl | rfl | rfl) <;> simp <;> omega))
    clear c0_0 c0_1 c0_2 c2_0 c2_1 c2_2 c2_3 c2_4 c2_5 c2_6 c2_7 c2_8 c2_9 c2_10 c2_11 c2_12 c2_13 c2_14 c3_0 c3_1 c3_2 c3_3 c3_4 c3_5 c3_6 c3_7 c3_8 c3_9 c3_10 c3_11 c3_12 c3_13 hr6 hg6 HB5
    obtain ⟨c0_0, c0_1, c0_2⟩ := row3 (b := gc) HB6.out.r0
    obtain ⟨c2_0, c2_1, c2_2, c2_3, c2_4, c2_5, c2_6, c2_7, c2_8, c2_9, c2_10, c2_11, c2_12, c2_13, c2_14⟩ := row15 (b := w.heap.size) HB6.out.r2
    obtain ⟨c3_0, c3_1, c3_2, c3_3, c3_4, c3_5, c3_6, c3_7, c3_8, c3_9, c3_10, c3_11, c3_12, c3_13⟩ := row14 (b := w.heap.size + 1) HB6.out.r3
    go_wp2_with fail
    refine (FM.out _ HB6.out.below).mono ?_
    rintro e w7 ⟨rfl, hb7⟩
    have HB7 := Lib.hid (HB6.out.next hb7)
    clear c0_0 c0_1 c0_2 c2_0 c2_1 c2_2 c2_3 c2_4 c2_5 c2_6 c2_7 c2_8 c2_9 c2_10 c2_11 c2_12 c2_13 c2_14 c3_0 c3_1 c3_2 c3_3 c3_4 c3_5 c3_6 c3_7 c3_8 c3_9 c3_10 c3_11 c3_12 c3_13 hb7 HB6
    obtain ⟨c0_0, c0_1, c0_2⟩ := row3 (b := gc) HB7.out.r0
    obtain ⟨c2_0, c2_1, c2_2, c2_3, c2_4, c2_5, c2_6, c2_7, c2_8, c2_9, c2_10, c2_11, c2_12, c2_13, c2_14⟩ := row15 (b := w.heap.size) HB7.out.r2
    obtain ⟨c3_0, c3_1, c3_2, c3_3, c3_4, c3_5, c3_6, c3_7, c3_8, c3_9, c3_10, c3_11, c3_12, c3_13⟩ := row14 (b := w.heap.size + 1) HB7.out.r3
    go_wp2_with (with_reducible show wpList _ _ _ (Oper.mk _ (.store 38 _ _) _ _ _ _ :: _) _ _; refine Hid.out ?_)
    refine Lib.hid ?_
    refine wpList_put rfl 38 _ _ rfl (w.heap.size + 2) #[.int .i64 ua, .int .i64 ub, .int .i64 u1, .int .i64 u2, .int .i64 u3, .bool u4, .int .i64 u5, .int .i64 v1, .int .i64 v2, .int .i64 v3, .int .u32 (uc : Nat), .int .i64 us, .int .i64 ui, .bool uf] _ 38 rfl rfl HB7.out.r4 (by kernel_rfl) rfl (by kernel_rfl) ?_
    intro w8 hr8 hg8
    have HB8 : Hid (Bx w [(gc, .cells #[.int .i64 1, .int .i64 (z2 : Int), .int .i64 (z3 : Int)] 107 (0, 0)), (gs, .cells #[.int .u32 ca, .int .u32 hu, .int .u32 hd] 105 (0, 0)), (w.heap.size, .cells #[.int .i64 f, .int .i64 d, .int .i64 r, .int .i64 pk, .float .f64 e1, .float .f64 e2, .float .f64 e3, .slice A cs.length cap, .int .i64 k, .int .i64 fl, .bool lv, .int .i64 dd, .bool bl, .int .u32 hu, .int .u32 hd] 67 (0, 0)), (w.heap.size + 1, .cells #[.int .i64 (z2 : Int), .int .i64 op, .int .i64 d1, .int .i64 d2, .int .i64 d3, .bool d4, .int .i64 d5, .int .i64 m1, .int .i64 m2, .int .i64 m3, .int .u32 ca, .int .i64 sh, .int .i64 0, .bool fa] 38 (0, 0)), (w.heap.size + 2, .cells #[.int .i64 ua, .int .i64 ub, .int .i64 u1, .int .i64 u2, .int .i64 u3, .bool u4, .int .i64 u5, .int .i64 v1, .int .i64 v2, .int .i64 v3, .int .u32 (uc : Nat), .int .i64 us, .int .i64 ui, .bool uf] 38 (0, 0))] w8) := Lib.hid (HB7.out.put (by omega) hg8.out hr8.out (by simp only [List.mem_cons, List.not_mem_nil, or_false]; rintro p (rfl | rfl | rfl | rfl | rfl) <;> simp <;> omega))
    clear c0_0 c0_1 c0_2 c2_0 c2_1 c2_2 c2_3 c2_4 c2_5 c2_6 c2_7 c2_8 c2_9 c2_10 c2_11 c2_12 c2_13 c2_14 c3_0 c3_1 c3_2 c3_3 c3_4 c3_5 c3_6 c3_7 c3_8 c3_9 c3_10 c3_11 c3_12 c3_13 hr8 hg8 HB7
    go_wp2_with fail
    exact bodyPost_ret (results_row_tmp Tryd.results40 _ _ _ _ _ (0, 0) _ rfl HB8.out.r4 Tryd.underlying38 rfl (by kernel_rfl)) rfl (⟨rfl, HB8.out.below⟩)
  by_cases h2 : z1 = 2
  · subst h2
    rw [if_neg (by decide), if_pos (by decide)]
    clear FT FR h3
    have FM := Lib.hid (FM.out ⟨(z2 : Int), op, s.dr, s.mo, s.ca, s.sh, 0, s.fa⟩ ((2 : Nat) : Int))
    generalize Nc.move b.floors x ⟨(z2 : Int), op, s.dr, s.mo, s.ca, s.sh, 0, s.fa⟩ ((2 : Nat) : Int) = t at *
    obtain ⟨⟨ua, ub, ⟨u1, u2, u3, u4, u5⟩, ⟨v1, v2, v3⟩, uc, us, ui, uf⟩, um⟩ := t
    clear hil hg h1
    have e3 : ((2 : Nat) : Int) = 2 := rfl
    simp only [e3] at FC FM
    clear e3
    obtain ⟨f, d, r, pk, e1, e2, e3, cs⟩ := b
    obtain ⟨fl, lv, dd, bl⟩ := x
    obtain ⟨hu, hd⟩ := h
    obtain ⟨sd, so, ⟨d1, d2, d3, d4, d5⟩, ⟨m1, m2, m3⟩, ca, sh, il, fa⟩ := s
    simp only [tickV, Nc.agg, BldD.agg, Fb.agg, Dr.agg, Mo.agg, Cs.agg] at *
    have HB0 := Lib.hid (bxs3 w (.cells #[.int .i64 f, .int .i64 d, .int .i64 r, .int .i64 pk, .float .f64 e1, .float .f64 e2, .float .f64 e3, .slice A cs.length cap, .int .i64 k, .int .i64 fl, .bool lv, .int .i64 dd, .bool bl, .int .u32 hu, .int .u32 hd] 67) (.cells #[.int .i64 sd, .int .i64 so, .int .i64 d1, .int .i64 d2, .int .i64 d3, .bool d4, .int .i64 d5, .int .i64 m1, .int .i64 m2, .int .i64 m3, .int .u32 ca, .int .i64 sh, .int .i64 il, .bool fa] 38) (.cells #[.int .i64 0, .int .i64 0, .int .i64 0, .int .i64 0, .int .i64 0, .bool false, .int .i64 0, .int .i64 0, .int .i64 0, .int .i64 0, .int .u32 0, .int .i64 0, .int .i64 0, .bool false] 38))
    go_enter Tryd.func40, Tryd.ntmps40
    go_wp2_with (with_reducible show wpList _ _ _ (Oper.mk _ (.load 36 _) _ _ _ _ :: _) _ _; refine Hid.out ?_)
    refine Lib.hid ?_
    generalize hWW : ((w.alloc _).alloc _).alloc _ = W1 at *
    clear hWW
    obtain ⟨-, -, -, -, -, -, -, -, -, -, -, -, -, c0_13, c0_14⟩ := row15 (b := w.heap.size) HB0.out.r0
    obtain ⟨-, -, -, -, -, -, -, -, -, -, c1_10, -⟩ := row14 (b := w.heap.size + 1) HB0.out.r1
    go_wp2_with (with_reducible show wpList _ _ _ (Oper.mk _ (.store 105 _ _) _ _ _ _ :: _) _ _; refine Hid.out ?_)
    refine Lib.hid ?_
    have l1_0 : w.heap.size < W1.heap.size := (Array.getElem?_eq_some_iff.1 HB0.out.r0).1
    have l1_1 : w.heap.size + 1 < W1.heap.size := (Array.getElem?_eq_some_iff.1 HB0.out.r1).1
    have l1_2 : w.heap.size + 2 < W1.heap.size := (Array.getElem?_eq_some_iff.1 HB0.out.r2).1
    have lw1 : w.heap.size ≤ W1.heap.size := HB0.out.below.size
    refine wpList_put rfl 105 _ _ rfl W1.heap.size #[.int .u32 ca, .int .u32 hu, .int .u32 hd] _ 105 rfl rfl (heap_alloc_new W1 _) (by kernel_rfl) rfl (by kernel_rfl) ?_
    intro w1 hr1 hg1
    have HB1 : Hid (Bx w [(W1.heap.size, .cells #[.int .u32 ca, .int .u32 hu, .int .u32 hd] 105 (0, 0)), (w.heap.size, .cells #[.int .i64 f, .int .i64 d, .int .i64 r, .int .i64 pk, .float .f64 e1, .float .f64 e2, .float .f64 e3, .slice A cs.length cap, .int .i64 k, .int .i64 fl, .bool lv, .int .i64 dd, .bool bl, .int .u32 hu, .int .u32 hd] 67 (0, 0)), (w.heap.size + 1, .cells #[.int .i64 sd, .int .i64 so, .int .i64 d1, .int .i64 d2, .int .i64 d3, .bool d4, .int .i64 d5, .int .i64 m1, .int .i64 m2, .int .i64 m3, .int .u32 ca, .int .i64 sh, .int .i64 il, .bool fa] 38 (0, 0)), (w.heap.size + 2, .cells #[.int .i64 0, .int .i64 0, .int .i64 0, .int .i64 0, .int .i64 0, .bool false, .int .i64 0, .int .i64 0, .int .i64 0, .int .i64 0, .int .u32 0, .int .i64 0, .int .i64 0, .bool false] 38 (0, 0))] w1) := Lib.hid ((HB0.out.make (heap_alloc_new W1 (.cells #[.int .u32 0, .int .u32 0, .int .u32 0] 105)) ((Below.refl W1.heap.size W1).alloc (Nat.le_refl _) _)).put HB0.out.below.size hg1.out hr1.out (by simp only [List.mem_cons, List.not_mem_nil, or_false]; rintro p (rfl | rfl | rfl | rfl) <;> simp <;> omega))
    clear c0_13 c0_14 c1_10 hr1 hg1 HB0
    generalize W1.heap.size = gs at *
    obtain ⟨c0_0, c0_1, c0_2⟩ := row3 (b := gs) HB1.out.r0
    obtain ⟨c1_0, -, -, -, -, -, -, -, -, c1_9, -⟩ := row15 (b := w.heap.size) HB1.out.r1
    obtain ⟨c2_0, c2_1, -⟩ := row14 (b := w.heap.size + 1) HB1.out.r2
    go_wp2_with fail
    refine (FC.out _ HB1.out.below).mono ?_
    rintro e w2 ⟨rfl, hb2⟩
    have HB2 := Lib.hid (HB1.out.next hb2)
    clear c0_0 c0_1 c0_2 c1_0 c1_9 c2_0 c2_1 hb2 HB1
    obtain ⟨c0_0, c0_1, c0_2⟩ := row3 (b := gs) HB2.out.r0
    obtain ⟨c1_0, -, -, -, -, -, -, -, -, c1_9, -⟩ := row15 (b := w.heap.size) HB2.out.r1
    obtain ⟨c2_0, c2_1, -⟩ := row14 (b := w.heap.size + 1) HB2.out.r2
    go_wp2_with (with_reducible show wpList _ _ _ (Oper.mk _ (.store 107 _ _) _ _ _ _ :: _) _ _; refine Hid.out ?_)
    refine Lib.hid ?_
    have l3_0 : gs < w2.heap.size := (Array.getElem?_eq_some_iff.1 HB2.out.r0).1
    have l3_1 : w.heap.size < w2.heap.size := (Array.getElem?_eq_some_iff.1 HB2.out.r1).1
    have l3_2 : w.heap.size + 1 < w2.heap.size := (Array.getElem?_eq_some_iff.1 HB2.out.r2).1
    have l3_3 : w.heap.size + 2 < w2.heap.size := (Array.getElem?_eq_some_iff.1 HB2.out.r3).1
    have lw3 : w.heap.size ≤ w2.heap.size := HB2.out.below.size
    refine wpList_put rfl 107 _ _ rfl w2.heap.size #[.int .i64 2, .int .i64 (z2 : Int), .int .i64 (z3 : Int)] _ 107 rfl rfl (heap_alloc_new w2 _) (by kernel_rfl) rfl (by kernel_rfl) ?_
    intro w3 hr3 hg3
    have HB3 : Hid (Bx w [(w2.heap.size, .cells #[.int .i64 2, .int .i64 (z2 : Int), .int .i64 (z3 : Int)] 107 (0, 0)), (gs, .cells #[.int .u32 ca, .int .u32 hu, .int .u32 hd] 105 (0, 0)), (w.heap.size, .cells #[.int .i64 f, .int .i64 d, .int .i64 r, .int .i64 pk, .float .f64 e1, .float .f64 e2, .float .f64 e3, .slice A cs.length cap, .int .i64 k, .int .i64 fl, .bool lv, .int .i64 dd, .bool bl, .int .u32 hu, .int .u32 hd] 67 (0, 0)), (w.heap.size + 1, .cells #[.int .i64 sd, .int .i64 so, .int .i64 d1, .int .i64 d2, .int .i64 d3, .bool d4, .int .i64 d5, .int .i64 m1, .int .i64 m2, .int .i64 m3, .int .u32 ca, .int .i64 sh, .int .i64 il, .bool fa] 38 (0, 0)), (w.heap.size + 2, .cells #[.int .i64 0, .int .i64 0, .int .i64 0, .int .i64 0, .int .i64 0, .bool false, .int .i64 0, .int .i64 0, .int .i64 0, .int .i64 0, .int .u32 0, .int .i64 0, .int .i64 0, .bool false] 38 (0, 0))] w3) := Lib.hid ((HB2.out.make (heap_alloc_new w2 (.cells #[.int .i64 0, .int .i64 0, .int .i64 0] 107)) ((Below.refl w2.heap.size w2).alloc (Nat.le_refl _) _)).put HB2.out.below.size hg3.out hr3.out (by simp only [List.mem_cons, List.not_mem_nil, or_false]; rintro p (rfl | rfl | rfl | rfl | rfl) <;> simp <;> omega))
    clear c0_0 c0_1 c0_2 c1_0 c1_9 c2_0 c2_1 hr3 hg3 HB2
    generalize w2.heap.size = gc at *
    obtain ⟨c1_0, c1_1, c1_2⟩ := row3 (b := gs) HB3.out.r1
    obtain ⟨c2_0, -, -, -, -, -, -, -, -, c2_9, -⟩ := row15 (b := w.heap.size) HB3.out.r2
    obtain ⟨c3_0, c3_1, -⟩ := row14 (b := w.heap.size + 1) HB3.out.r3
    go_wp2_with fail
    refine (FN.out _ HB3.out.below).mono ?_
    rintro e w4 ⟨rfl, hb4⟩
    have HB4 := Lib.hid (HB3.out.next hb4)
    clear c1_0 c1_1 c1_2 c2_0 c2_9 c3_0 c3_1 hb4 HB3
    go_wp2_with (with_reducible show wpList _ _ _ (Oper.mk _ (.store 31 _ _) _ _ _ _ :: _) _ _; refine Hid.out ?_)
    refine Lib.hid ?_
    refine wpList_putPart rfl 31 _ _ rfl (w.heap.size + 1) 0 #[.int .i64 (z2 : Int), .int .i64 op] _ #[.int .i64 (z2 : Int), .int .i64 op, .int .i64 d1, .int .i64 d2, .int .i64 d3, .bool d4, .int .i64 d5, .int .i64 m1, .int .i64 m2, .int .i64 m3, .int .u32 ca, .int .i64 sh, .int .i64 il, .bool fa] 38 rfl rfl HB4.out.r3 (by kernel_rfl) (by simp) (by kernel_rfl) rfl ?_
    intro w5 hr5 hg5
    have HB5 : Hid (Bx w [(gc, .cells #[.int .i64 2, .int .i64 (z2 : Int), .int .i64 (z3 : Int)] 107 (0, 0)), (gs, .cells #[.int .u32 ca, .int .u32 hu, .int .u32 hd] 105 (0, 0)), (w.heap.size, .cells #[.int .i64 f, .int .i64 d, .int .i64 r, .int .i64 pk, .float .f64 e1, .float .f64 e2, .float .f64 e3, .slice A cs.length cap, .int .i64 k, .int .i64 fl, .bool lv, .int .i64 dd, .bool bl, .int .u32 hu, .int .u32 hd] 67 (0, 0)), (w.heap.size + 1, .cells #[.int .i64 (z2 : Int), .int .i64 op, .int .i64 d1, .int .i64 d2, .int .i64 d3, .bool d4, .int .i64 d5, .int .i64 m1, .int .i64 m2, .int .i64 m3, .int .u32 ca, .int .i64 sh, .int .i64 il, .bool fa] 38 (0, 0)), (w.heap.size + 2, .cells #[.int .i64 0, .int .i64 0, .int .i64 0, .int .i64 0, .int .i64 0, .bool false, .int .i64 0, .int .i64 0, .int .i64 0, .int .i64 0, .int .u32 0, .int .i64 0, .int .i64 0, .bool false] 38 (0, 0))] w5) := Lib.hid (HB4.out.put (by omega) hg5.out hr5.out (by simp only [List.mem_cons, List.not_mem_nil, or_false]; rintro p (rfl | rfl | rfl | rfl | rfl) <;> simp <;> omega))
    clear hr5 hg5 HB4
    obtain ⟨c0_0, c0_1, c0_2⟩ := row3 (b := gc) HB5.out.r0
    obtain ⟨c2_0, c2_1, c2_2, c2_3, c2_4, c2_5, c2_6, c2_7, c2_8, c2_9, c2_10, c2_11, c2_12, c2_13, c2_14⟩ := row15 (b := w.heap.size) HB5.out.r2
    obtain ⟨c3_0, c3_1, c3_2, c3_3, c3_4, c3_5, c3_6, c3_7, c3_8, c3_9, c3_10, c3_11, c3_12, c3_13⟩ := row14 (b := w.heap.size + 1) HB5.out.r3
    go_wp2_with (with_reducible show wpList _ _ _ (Oper.mk _ (.store 3 _ _) _ _ _ _ :: _) _ _; refine Hid.out ?_)
    refine Lib.hid ?_
    refine wpList_putCell rfl 3 _ _ rfl (w.heap.size + 1) 12 (.int .i64 0) _ _ 38 rfl rfl HB5.out.r3 (by kernel_rfl) (by simp) rfl rfl rfl ?_
    intro w6 hr6 hg6
    have HB6 : Hid (Bx w [(gc, .cells #[.int .i64 2, .int .i64 (z2 : Int), .int .i64 (z3 : Int)] 107 (0, 0)), (gs, .cells #[.int .u32 ca, .int .u32 hu, .int .u32 hd] 105 (0, 0)), (w.heap.size, .cells #[.int .i64 f, .int .i64 d, .int .i64 r, .int .i64 pk, .float .f64 e1, .float .f64 e2, .float .f64 e3, .slice A cs.length cap, .int .i64 k, .int .i64 fl, .bool lv, .int .i64 dd, .bool bl, .int .u32 hu, .int .u32 hd] 67 (0, 0)), (w.heap.size + 1, .cells #[.int .i64 (z2 : Int), .int .i64 op, .int .i64 d1, .int .i64 d2, .int .i64 d3, .bool d4, .int .i64 d5, .int .i64 m1, .int .i64 m2, .int .i64 m3, .int .u32 ca, .int .i64 sh, .int .i64 0, .bool fa] 38 (0, 0)), (w.heap.size + 2, .cells #[.int .i64 0, .int .i64 0, .int .i64 0, .int .i64 0, .int .i64 0, .bool false, .int .i64 0, .int .i64 0, .int .i64 0, .int .i64 0, .int .u32 0, .int .i64 0, .int .i64 0, .bool false] 38 (0, 0))] w6) := Lib.hid (HB5.out.put (by omega) hg6.out hr6.out (by simp only [List.mem_cons, List.not_mem_nil, or_false]; rintro p (rfl | rfl | rfl | rfl | rfl) <;> simp <;> omega))
    clear c0_0 c0_1 c0_2 c2_0 c2_1 c2_2 c2_3 c2_4 c2_5 c2_6 c2_7 c2_8 c2_9 c2_10 c2_11 c2_12 c2_13 c2_14 c3_0 c3_1 c3_2 c3_3 c3_4 c3_5 c3_6 c3_7 c3_8 c3_9 c3_10 c3_11 c3_12 c3_13 hr6 hg6 HB5
    obtain ⟨c0_0, c0_1, c0_2⟩ := row3 (b := gc) HB6.out.r0
    obtain ⟨c2_0, c2_1, c2_2, c2_3, c2_4, c2_5, c2_6, c2_7, c2_8, c2_9, c2_10, c2_11, c2_12, c2_13, c2_14⟩ := row15 (b := w.heap.size) HB6.out.r2
    obtain ⟨c3_0, c3_1, c3_2, c3_3, c3_4, c3_5, c3_6, c3_7, c3_8, c3_9, c3_10, c3_11, c3_12, c3_13⟩ := row14 (b := w.heap.size + 1) HB6.out.r3
    go_wp2_with fail
    refine (FM.out _ HB6.out.below).mono ?_
    rintro e w7 ⟨rfl, hb7⟩
    have HB7 := Lib.hid (HB6.out.next hb7)
    clear c0_0 c0_1 c0_2 c2_0 c2_1 c2_2 c2_3 c2_4 c2_5 c2_6 c2_7 c2_8 c2_9 c2_10 c2_11 c2_12 c2_13 c2_14 c3_0 c3_1 c3_2 c3_3 c3_4 c3_5 c3_6 c3_7 c3_8 c3_9 c3_10 c3_11 c3_12 c3_13 hb7 HB6
    obtain ⟨c0_0, c0_1, c0_2⟩ := row3 (b := gc) HB7.out.r0
    obtain ⟨c2_0, c2_1, c2_2, c2_3, c2_4, c2_5, c2_6, c2_7, c2_8, c2_9, c2_10, c2_11, c2_12, c2_13, c2_14⟩ := row15 (b := w.heap.size) HB7.out.r2
    obtain ⟨c3_0, c3_1, c3_2, c3_3, c3_4, c3_5, c3_6, c3_7, c3_8, c3_9, c3_10, c3_11, c3_12, c3_13⟩ := row14 (b := w.heap.size + 1) HB7.out.r3
    go_wp2_with (with_reducible show wpList _ _ _ (Oper.mk _ (.store 38 _ _) _ _ _ _ :: _) _ _; refine Hid.out ?_)
    refine Lib.hid ?_
    refine wpList_put rfl 38 _ _ rfl (w.heap.size + 2) #[.int .i64 ua, .int .i64 ub, .int .i64 u1, .int .i64 u2, .int .i64 u3, .bool u4, .int .i64 u5, .int .i64 v1, .int .i64 v2, .int .i64 v3, .int .u32 (uc : Nat), .int .i64 us, .int .i64 ui, .bool uf] _ 38 rfl rfl HB7.out.r4 (by kernel_rfl) rfl (by kernel_rfl) ?_
    intro w8 hr8 hg8
    have HB8 : Hid (Bx w [(gc, .cells #[.int .i64 2, .int .i64 (z2 : Int), .int .i64 (z3 : Int)] 107 (0, 0)), (gs, .cells #[.int .u32 ca, .int .u32 hu, .int .u32 hd] 105 (0, 0)), (w.heap.size, .cells #[.int .i64 f, .int .i64 d, .int .i64 r, .int .i64 pk, .float .f64 e1, .float .f64 e2, .float .f64 e3, .slice A cs.length cap, .int .i64 k, .int .i64 fl, .bool lv, .int .i64 dd, .bool bl, .int .u32 hu, .int .u32 hd] 67 (0, 0)), (w.heap.size + 1, .cells #[.int .i64 (z2 : Int), .int .i64 op, .int .i64 d1, .int .i64 d2, .int .i64 d3, .bool d4, .int .i64 d5, .int .i64 m1, .int .i64 m2, .int .i64 m3, .int .u32 ca, .int .i64 sh, .int .i64 0, .bool fa] 38 (0, 0)), (w.heap.size + 2, .cells #[.int .i64 ua, .int .i64 ub, .int .i64 u1, .int .i64 u2, .int .i64 u3, .bool u4, .int .i64 u5, .int .i64 v1, .int .i64 v2, .int .i64 v3, .int .u32 (uc : Nat), .int .i64 us, .int .i64 ui, .bool uf] 38 (0, 0))] w8) := Lib.hid (HB7.out.put (by omega) hg8.out hr8.out (by simp only [List.mem_cons, List.not_mem_nil, or_false]; rintro p (rfl | rfl | rfl | rfl | rfl) <;> simp <;> omega))
    clear c0_0 c0_1 c0_2 c2_0 c2_1 c2_2 c2_3 c2_4 c2_5 c2_6 c2_7 c2_8 c2_9 c2_10 c2_11 c2_12 c2_13 c2_14 c3_0 c3_1 c3_2 c3_3 c3_4 c3_5 c3_6 c3_7 c3_8 c3_9 c3_10 c3_11 c3_12 c3_13 hr8 hg8 HB7
    go_wp2_with fail
    exact bodyPost_ret (results_row_tmp Tryd.results40 _ _ _ _ _ (0, 0) _ rfl HB8.out.r4 Tryd.underlying38 rfl (by kernel_rfl)) rfl (⟨rfl, HB8.out.below⟩)
  rw [if_neg h3, if_neg (by omega)]
  have hB3 : ((z1 : Int) == 3) = false := by simp; omega
  have hB1 : ((z1 : Int) == 1) = false := by simp; omega
  have hB2 : ((z1 : Int) == 2) = false := by simp; omega
  clear FT FM h1 h2 h3
  have FR := Lib.hid (FR.out ⟨(z2 : Int), op, s.dr, s.mo, s.ca, s.sh, s.il, s.fa⟩ hil)
  generalize Nc.rest b k x ⟨(z2 : Int), op, s.dr, s.mo, s.ca, s.sh, s.il, s.fa⟩ = t at *
  obtain ⟨⟨ua, ub, ⟨u1, u2, u3, u4, u5⟩, ⟨v1, v2, v3⟩, uc, us, ui, uf⟩, um⟩ := t
  clear hil hg
  obtain ⟨f, d, r, pk, e1, e2, e3, cs⟩ := b
  obtain ⟨fl, lv, dd, bl⟩ := x
  obtain ⟨hu, hd⟩ := h
  obtain ⟨sd, so, ⟨d1, d2, d3, d4, d5⟩, ⟨m1, m2, m3⟩, ca, sh, il, fa⟩ := s
  simp only [tickV, Nc.agg, BldD.agg, Fb.agg, Dr.agg, Mo.agg, Cs.agg] at *
  have HB0 := Lib.hid (bxs3 w (.cells #[.int .i64 f, .int .i64 d, .int .i64 r, .int .i64 pk, .float .f64 e1, .float .f64 e2, .float .f64 e3, .slice A cs.length cap, .int .i64 k, .int .i64 fl, .bool lv, .int .i64 dd, .bool bl, .int .u32 hu, .int .u32 hd] 67) (.cells #[.int .i64 sd, .int .i64 so, .int .i64 d1, .int .i64 d2, .int .i64 d3, .bool d4, .int .i64 d5, .int .i64 m1, .int .i64 m2, .int .i64 m3, .int .u32 ca, .int .i64 sh, .int .i64 il, .bool fa] 38) (.cells #[.int .i64 0, .int .i64 0, .int .i64 0, .int .i64 0, .int .i64 0, .bool false, .int .i64 0, .int .i64 0, .int .i64 0, .int .i64 0, .int .u32 0, .int .i64 0, .int .i64 0, .bool false] 38))
  go_enter Tryd.func40, Tryd.ntmps40
  go_wp2_with (with_reducible show wpList _ _ _ (Oper.mk _ (.load 36 _) _ _ _ _ :: _) _ _; refine Hid.out ?_)
  refine Lib.hid ?_
  generalize hWW : ((w.alloc _).alloc _).alloc _ = W1 at *
  clear hWW
  obtain ⟨-, -, -, -, -, -, -, -, -, -, -, -, -, c0_13, c0_14⟩ := row15 (b := w.heap.size) HB0.out.r0
  obtain ⟨-, -, -, -, -, -, -, -, -, -, c1_10, -⟩ := row14 (b := w.heap.size + 1) HB0.out.r1
  go_wp2_with (with_reducible show wpList _ _ _ (Oper.mk _ (.store 105 _ _) _ _ _ _ :: _) _ _; refine Hid.out ?_)
  refine Lib.hid ?_
  have l1_0 : w.heap.size < W1.heap.size := (Array.getElem?_eq_some_iff.1 HB0.out.r0).1
  have l1_1 : w.heap.size + 1 < W1.heap.size := (Array.getElem?_eq_some_iff.1 HB0.out.r1).1
  have l1_2 : w.heap.size + 2 < W1.heap.size := (Array.getElem?_eq_some_iff.1 HB0.out.r2).1
  have lw1 : w.heap.size ≤ W1.heap.size := HB0.out.below.size
  refine wpList_put rfl 105 _ _ rfl W1.heap.size #[.int .u32 ca, .int .u32 hu, .int .u32 hd] _ 105 rfl rfl (heap_alloc_new W1 _) (by kernel_rfl) rfl (by kernel_rfl) ?_
  intro w1 hr1 hg1
  have HB1 : Hid (Bx w [(W1.heap.size, .cells #[.int .u32 ca, .int .u32 hu, .int .u32 hd] 105 (0, 0)), (w.heap.size, .cells #[.int .i64 f, .int .i64 d, .int .i64 r, .int .i64 pk, .float .f64 e1, .float .f64 e2, .float .f64 e3, .slice A cs.length cap, .int .i64 k, .int .i64 fl, .bool lv, .int .i64 dd, .bool bl, .int .u32 hu, .int .u32 hd] 67 (0, 0)), (w.heap.size + 1, .cells #[.int .i64 sd, .int .i64 so, .int .i64 d1, .int .i64 d2, .int .i64 d3, .bool d4, .int .i64 d5, .int .i64 m1, .int .i64 m2, .int .i64 m3, .int .u32 ca, .int .i64 sh, .int .i64 il, .bool fa] 38 (0, 0)), (w.heap.size + 2, .cells #[.int .i64 0, .int .i64 0, .int .i64 0, .int .i64 0, .int .i64 0, .bool false, .int .i64 0, .int .i64 0, .int .i64 0, .int .i64 0, .int .u32 0, .int .i64 0, .int .i64 0, .bool false] 38 (0, 0))] w1) := Lib.hid ((HB0.out.make (heap_alloc_new W1 (.cells #[.int .u32 0, .int .u32 0, .int .u32 0] 105)) ((Below.refl W1.heap.size W1).alloc (Nat.le_refl _) _)).put HB0.out.below.size hg1.out hr1.out (by simp only [List.mem_cons, List.not_mem_nil, or_false]; rintro p (rfl | rfl | rfl | rfl) <;> simp <;> omega))
  clear c0_13 c0_14 c1_10 hr1 hg1 HB0
  generalize W1.heap.size = gs at *
  obtain ⟨c0_0, c0_1, c0_2⟩ := row3 (b := gs) HB1.out.r0
  obtain ⟨c1_0, -, -, -, -, -, -, -, -, c1_9, -⟩ := row15 (b := w.heap.size) HB1.out.r1
  obtain ⟨c2_0, c2_1, -⟩ := row14 (b := w.heap.size + 1) HB1.out.r2
  go_wp2_with fail
  refine (FC.out _ HB1.out.below).mono ?_
  rintro e w2 ⟨rfl, hb2⟩
  have HB2 := Lib.hid (HB1.out.next hb2)
  clear c0_0 c0_1 c0_2 c1_0 c1_9 c2_0 c2_1 hb2 HB1
  obtain ⟨c0_0, c0_1, c0_2⟩ := row3 (b := gs) HB2.out.r0
  obtain ⟨c1_0, -, -, -, -, -, -, -, -, c1_9, -⟩ := row15 (b := w.heap.size) HB2.out.r1
  obtain ⟨c2_0, c2_1, -⟩ := row14 (b := w.heap.size + 1) HB2.out.r2
  go_wp2_with (with_reducible show wpList _ _ _ (Oper.mk _ (.store 107 _ _) _ _ _ _ :: _) _ _; refine Hid.out ?_)
  refine Lib.hid ?_
  have l3_0 : gs < w2.heap.size := (Array.getElem?_eq_some_iff.1 HB2.out.r0).1
  have l3_1 : w.heap.size < w2.heap.size := (Array.getElem?_eq_some_iff.1 HB2.out.r1).1
  have l3_2 : w.heap.size + 1 < w2.heap.size := (Array.getElem?_eq_some_iff.1 HB2.out.r2).1
  have l3_3 : w.heap.size + 2 < w2.heap.size := (Array.getElem?_eq_some_iff.1 HB2.out.r3).1
  have lw3 : w.heap.size ≤ w2.heap.size := HB2.out.below.size
  refine wpList_put rfl 107 _ _ rfl w2.heap.size #[.int .i64 (z1 : Int), .int .i64 (z2 : Int), .int .i64 (z3 : Int)] _ 107 rfl rfl (heap_alloc_new w2 _) (by kernel_rfl) rfl (by kernel_rfl) ?_
  intro w3 hr3 hg3
  have HB3 : Hid (Bx w [(w2.heap.size, .cells #[.int .i64 (z1 : Int), .int .i64 (z2 : Int), .int .i64 (z3 : Int)] 107 (0, 0)), (gs, .cells #[.int .u32 ca, .int .u32 hu, .int .u32 hd] 105 (0, 0)), (w.heap.size, .cells #[.int .i64 f, .int .i64 d, .int .i64 r, .int .i64 pk, .float .f64 e1, .float .f64 e2, .float .f64 e3, .slice A cs.length cap, .int .i64 k, .int .i64 fl, .bool lv, .int .i64 dd, .bool bl, .int .u32 hu, .int .u32 hd] 67 (0, 0)), (w.heap.size + 1, .cells #[.int .i64 sd, .int .i64 so, .int .i64 d1, .int .i64 d2, .int .i64 d3, .bool d4, .int .i64 d5, .int .i64 m1, .int .i64 m2, .int .i64 m3, .int .u32 ca, .int .i64 sh, .int .i64 il, .bool fa] 38 (0, 0)), (w.heap.size + 2, .cells #[.int .i64 0, .int .i64 0, .int .i64 0, .int .i64 0, .int .i64 0, .bool false, .int .i64 0, .int .i64 0, .int .i64 0, .int .i64 0, .int .u32 0, .int .i64 0, .int .i64 0, .bool false] 38 (0, 0))] w3) := Lib.hid ((HB2.out.make (heap_alloc_new w2 (.cells #[.int .i64 0, .int .i64 0, .int .i64 0] 107)) ((Below.refl w2.heap.size w2).alloc (Nat.le_refl _) _)).put HB2.out.below.size hg3.out hr3.out (by simp only [List.mem_cons, List.not_mem_nil, or_false]; rintro p (rfl | rfl | rfl | rfl | rfl) <;> simp <;> omega))
  clear c0_0 c0_1 c0_2 c1_0 c1_9 c2_0 c2_1 hr3 hg3 HB2
  generalize w2.heap.size = gc at *
  obtain ⟨c1_0, c1_1, c1_2⟩ := row3 (b := gs) HB3.out.r1
  obtain ⟨c2_0, -, -, -, -, -, -, -, -, c2_9, -⟩ := row15 (b := w.heap.size) HB3.out.r2
  obtain ⟨c3_0, c3_1, -⟩ := row14 (b := w.heap.size + 1) HB3.out.r3
  go_wp2_with fail
  refine (FN.out _ HB3.out.below).mono ?_
  rintro e w4 ⟨rfl, hb4⟩
  have HB4 := Lib.hid (HB3.out.next hb4)
  clear c1_0 c1_1 c1_2 c2_0 c2_9 c3_0 c3_1 hb4 HB3
  go_wp2_with (with_reducible show wpList _ _ _ (Oper.mk _ (.store 31 _ _) _ _ _ _ :: _) _ _; refine Hid.out ?_)
  refine Lib.hid ?_
  refine wpList_putPart rfl 31 _ _ rfl (w.heap.size + 1) 0 #[.int .i64 (z2 : Int), .int .i64 op] _ #[.int .i64 (z2 : Int), .int .i64 op, .int .i64 d1, .int .i64 d2, .int .i64 d3, .bool d4, .int .i64 d5, .int .i64 m1, .int .i64 m2, .int .i64 m3, .int .u32 ca, .int .i64 sh, .int .i64 il, .bool fa] 38 rfl rfl HB4.out.r3 (by kernel_rfl) (by simp) (by kernel_rfl) rfl ?_
  intro w5 hr5 hg5
  have HB5 : Hid (Bx w [(gc, .cells #[.int .i64 (z1 : Int), .int .i64 (z2 : Int), .int .i64 (z3 : Int)] 107 (0, 0)), (gs, .cells #[.int .u32 ca, .int .u32 hu, .int .u32 hd] 105 (0, 0)), (w.heap.size, .cells #[.int .i64 f, .int .i64 d, .int .i64 r, .int .i64 pk, .float .f64 e1, .float .f64 e2, .float .f64 e3, .slice A cs.length cap, .int .i64 k, .int .i64 fl, .bool lv, .int .i64 dd, .bool bl, .int .u32 hu, .int .u32 hd] 67 (0, 0)), (w.heap.size + 1, .cells #[.int .i64 (z2 : Int), .int .i64 op, .int .i64 d1, .int .i64 d2, .int .i64 d3, .bool d4, .int .i64 d5, .int .i64 m1, .int .i64 m2, .int .i64 m3, .int .u32 ca, .int .i64 sh, .int .i64 il, .bool fa] 38 (0, 0)), (w.heap.size + 2, .cells #[.int .i64 0, .int .i64 0, .int .i64 0, .int .i64 0, .int .i64 0, .bool false, .int .i64 0, .int .i64 0, .int .i64 0, .int .i64 0, .int .u32 0, .int .i64 0, .int .i64 0, .bool false] 38 (0, 0))] w5) := Lib.hid (HB4.out.put (by omega) hg5.out hr5.out (by simp only [List.mem_cons, List.not_mem_nil, or_false]; rintro p (rfl | rfl | rfl | rfl | rfl) <;> simp <;> omega))
  clear hr5 hg5 HB4
  obtain ⟨c0_0, c0_1, c0_2⟩ := row3 (b := gc) HB5.out.r0
  obtain ⟨c2_0, c2_1, c2_2, c2_3, c2_4, c2_5, c2_6, c2_7, c2_8, c2_9, c2_10, c2_11, c2_12, c2_13, c2_14⟩ := row15 (b := w.heap.size) HB5.out.r2
  obtain ⟨c3_0, c3_1, c3_2, c3_3, c3_4, c3_5, c3_6, c3_7, c3_8, c3_9, c3_10, c3_11, c3_12, c3_13⟩ := row14 (b := w.heap.size + 1) HB5.out.r3
  go_wp2_with fail
  refine (FR.out _ HB5.out.below).mono ?_
  rintro e w6 ⟨rfl, hb6⟩
  have HB6 := Lib.hid (HB5.out.next hb6)
  clear c0_0 c0_1 c0_2 c2_0 c2_1 c2_2 c2_3 c2_4 c2_5 c2_6 c2_7 c2_8 c2_9 c2_10 c2_11 c2_12 c2_13 c2_14 c3_0 c3_1 c3_2 c3_3 c3_4 c3_5 c3_6 c3_7 c3_8 c3_9 c3_10 c3_11 c3_12 c3_13 hb6 HB5
  obtain ⟨c0_0, c0_1, c0_2⟩ := row3 (b := gc) HB6.out.r0
  obtain ⟨c2_0, c2_1, c2_2, c2_3, c2_4, c2_5, c2_6, c2_7, c2_8, c2_9, c2_10, c2_11, c2_12, c2_13, c2_14⟩ := row15 (b := w.heap.size) HB6.out.r2
  obtain ⟨c3_0, c3_1, c3_2, c3_3, c3_4, c3_5, c3_6, c3_7, c3_8, c3_9, c3_10, c3_11, c3_12, c3_13⟩ := row14 (b := w.heap.size + 1) HB6.out.r3
  go_wp2_with (with_reducible show wpList _ _ _ (Oper.mk _ (.store 38 _ _) _ _ _ _ :: _) _ _; refine Hid.out ?_)
  refine Lib.hid ?_
  refine wpList_put rfl 38 _ _ rfl (w.heap.size + 2) #[.int .i64 ua, .int .i64 ub, .int .i64 u1, .int .i64 u2, .int .i64 u3, .bool u4, .int .i64 u5, .int .i64 v1, .int .i64 v2, .int .i64 v3, .int .u32 (uc : Nat), .int .i64 us, .int .i64 ui, .bool uf] _ 38 rfl rfl HB6.out.r4 (by kernel_rfl) rfl (by kernel_rfl) ?_
  intro w7 hr7 hg7
  have HB7 : Hid (Bx w [(gc, .cells #[.int .i64 (z1 : Int), .int .i64 (z2 : Int), .int .i64 (z3 : Int)] 107 (0, 0)), (gs, .cells #[.int .u32 ca, .int .u32 hu, .int .u32 hd] 105 (0, 0)), (w.heap.size, .cells #[.int .i64 f, .int .i64 d, .int .i64 r, .int .i64 pk, .float .f64 e1, .float .f64 e2, .float .f64 e3, .slice A cs.length cap, .int .i64 k, .int .i64 fl, .bool lv, .int .i64 dd, .bool bl, .int .u32 hu, .int .u32 hd] 67 (0, 0)), (w.heap.size + 1, .cells #[.int .i64 (z2 : Int), .int .i64 op, .int .i64 d1, .int .i64 d2, .int .i64 d3, .bool d4, .int .i64 d5, .int .i64 m1, .int .i64 m2, .int .i64 m3, .int .u32 ca, .int .i64 sh, .int .i64 il, .bool fa] 38 (0, 0)), (w.heap.size + 2, .cells #[.int .i64 ua, .int .i64 ub, .int .i64 u1, .int .i64 u2, .int .i64 u3, .bool u4, .int .i64 u5, .int .i64 v1, .int .i64 v2, .int .i64 v3, .int .u32 (uc : Nat), .int .i64 us, .int .i64 ui, .bool uf] 38 (0, 0))] w7) := Lib.hid (HB6.out.put (by omega) hg7.out hr7.out (by simp only [List.mem_cons, List.not_mem_nil, or_false]; rintro p (rfl | rfl | rfl | rfl | rfl) <;> simp <;> omega))
  clear c0_0 c0_1 c0_2 c2_0 c2_1 c2_2 c2_3 c2_4 c2_5 c2_6 c2_7 c2_8 c2_9 c2_10 c2_11 c2_12 c2_13 c2_14 c3_0 c3_1 c3_2 c3_3 c3_4 c3_5 c3_6 c3_7 c3_8 c3_9 c3_10 c3_11 c3_12 c3_13 hr7 hg7 HB6
  go_wp2_with fail
  exact bodyPost_ret (results_row_tmp Tryd.results40 _ _ _ _ _ (0, 0) _ rfl HB7.out.r4 Tryd.underlying38 rfl (by kernel_rfl)) rfl (⟨rfl, HB7.out.below⟩)
end Go.Proofs.YtnjcegkefjdgdaaDoor
