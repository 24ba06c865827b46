/- The walk of CollectiveChooses. No statement of the seat is proved here. -/
import Derived.Test.YteniimbcbjbegaaDoorCvSameAll
import Derived.Test.YteniimbcbjbegaaDoorCvFewA
import Derived.Test.YteniimbcbjbegaaDoorCvPlay
namespace Go.Proofs.YteniimbcbjbegaaDoor
open Go.RowKit Ghost

set_option maxRecDepth 100000 in
set_option maxHeartbeats 8000000 in
theorem lawChooses_nat (n : Nat) (p1 p2 p3 : Int) (s : Stp) (w : World) (hn : n < 256) (hs : s.ok) (hT : Tabs w) :
    Calls Tryd.prog 3 #[.int .u8 n, .agg #[.int .i64 p1, .int .i64 p2, .int .i64 p3], s.agg] w fun e w' => e = .returned (.bool true) ∧ Below w.heap.size w w' := by
  have FSA := Lib.hid (fun wx (hb : Below w.heap.size w wx) => sane11_any wx (hT.below hb))
  have hs4 := fewF_ok hs (2 ^ 4 - 1)
  have FF := Lib.hid (fun wx => (show Calls Tryd.prog 9 #[s.agg, .int .i64 (4 : Int)] wx (fun e w' => e = .returned (fewF s (2 ^ 4 - 1)).agg ∧ Below wx.heap.size wx w') from few_any 4 (by decide) s wx hs))
  have hs8 : Stp.ok ⟨s.car &&& s.car / 8, ⟨s.h.up &&& s.car, 0⟩⟩ := ⟨Cs.and_lt hs.1, Cs.and_lt hs.2.1, by show (0 : Nat) < 4294967296; decide⟩
  have e8 := u32_and_nat s.car (s.car / 8) hs.1 (Nat.lt_of_le_of_lt (Nat.div_le_self _ _) hs.1)
  have e9 := u32_and_nat s.h.up s.car hs.2.1 hs.1
  have e7 : (s.car : Int) / 8 = ((s.car / 8 : Nat) : Int) := by omega
  obtain ⟨F, hFe⟩ : ∃ F : Nat, F = 2 + n % 31 := ⟨_, rfl⟩
  have hF2 : 2 ≤ F := by omega
  have hF32 : F ≤ 32 := by omega
  have eF : (2 : Int) + (n : Int) % 31 = (F : Int) := by omega
  have FS1 := Lib.hid (fun (d o f : Int) wx (hb : Below w.heap.size w wx) => same11_any (F : Int) f d o s wx hs (hT.below hb))
  have FS2 := Lib.hid (fun (d o f : Int) wx (hb : Below w.heap.size w wx) => same11_any (F : Int) f d o (fewF s (2 ^ 4 - 1)) wx hs4 (hT.below hb))
  have FS3 := Lib.hid (fun (d o f : Int) wx (hb : Below w.heap.size w wx) => same11_any (F : Int) f d o ⟨s.car &&& s.car / 8, ⟨s.h.up &&& s.car, 0⟩⟩ wx hs8 (hT.below hb))
  have FS4 := Lib.hid (fun wx (hb : Below w.heap.size w wx) => same11_any (n : Int) p3 p1 p2 s wx hs (hT.below hb))
  clear hs hs4 hs8 hT hFe
  obtain ⟨x1, hx1⟩ : ∃ x, s.car &&& s.car / 8 = x := ⟨_, rfl⟩
  obtain ⟨x2, hx2⟩ : ∃ x, s.h.up &&& s.car = x := ⟨_, rfl⟩
  rw [hx1] at e8 FS3
  rw [hx2] at e9 FS3
  clear hx1 hx2
  generalize fewF s (2 ^ 4 - 1) = y at *
  obtain ⟨y1, y2, y3⟩ := y
  obtain ⟨s1, s2, s3⟩ := s
  simp only [Stp.agg] at *
  rw [show ((0 : Nat) : Int) = 0 from rfl] at FS3
  generalize s1 / 8 = t8 at *
  have HE := Lib.hid (And.intro e7 (And.intro e8 e9))
  clear e7 e8 e9
  have HB0 := Lib.hid (bxs2 w (.cells #[.int .i64 p1, .int .i64 p2, .int .i64 p3] 25) (.cells #[.int .u32 s1, .int .u32 s2, .int .u32 s3] 30))
  go_enter Tryd.func3, Tryd.ntmps3
  go_wp2_with fail
  try simp only [eF]
  clear eF
  go_loopw [8] (fun vf wr => ∃ f : Int, -1 ≤ f ∧ f ≤ (F : Int) + 1 ∧ vf = .int .i64 f ∧ Bx w [(w.heap.size, .cells #[.int .i64 p1, .int .i64 p2, .int .i64 p3] 25 (0, 0)), (w.heap.size + 1, .cells #[.int .u32 s1, .int .u32 s2, .int .u32 s3] 30 (0, 0))] wr) (fun vf _ => ((F : Int) + 1 - intOf vf).toNat)
  case atStart => exact ⟨-1, by omega, by omega, rfl, HB0.out⟩
  case round =>
    obtain ⟨f, hf1, hf2, rfl, hbr⟩ := hrel
    have HBF := Lib.hid hbr
    clear hbr HB0
    by_cases hfl : f ≤ (F : Int)
    · have hfB : decide (f ≤ (F : Int)) = true := decide_eq_true hfl
      have hfw : IntKind.i64.wrap (f + 1) = f + 1 := by rw [IntKind.wrap_i64]; omega
      have HF := Lib.hid (And.intro hf1 (And.intro hfl hfw))
      clear hfw hf1 hf2
      go_wp2_with fail
      go_loopw [9] (fun vd wr => ∃ d : Int, -1 ≤ d ∧ d ≤ 4 ∧ vd = .int .i64 d ∧ Bx w [(w.heap.size, .cells #[.int .i64 p1, .int .i64 p2, .int .i64 p3] 25 (0, 0)), (w.heap.size + 1, .cells #[.int .u32 s1, .int .u32 s2, .int .u32 s3] 30 (0, 0))] wr) (fun vd _ => (4 - intOf vd).toNat)
      case atStart => exact ⟨-1, by omega, by omega, rfl, HBF.out⟩
      case round =>
        obtain ⟨d, hd1, hd2, rfl, hbr⟩ := hrel
        have HBD := Lib.hid hbr
        clear hbr HBF
        by_cases hdl : d < 4
        · have hdB : decide (d < 4) = true := decide_eq_true hdl
          have hdw : IntKind.i64.wrap (d + 1) = d + 1 := by rw [IntKind.wrap_i64]; omega
          have HD := Lib.hid (And.intro hd1 (And.intro hdl hdw))
          clear hdw hd1 hd2
          go_wp2_with fail
          go_loopw [10] (fun vo wr => ∃ o : Nat, o ≤ 8 ∧ vo = .int .i64 o ∧ Bx w [(w.heap.size, .cells #[.int .i64 p1, .int .i64 p2, .int .i64 p3] 25 (0, 0)), (w.heap.size + 1, .cells #[.int .u32 s1, .int .u32 s2, .int .u32 s3] 30 (0, 0))] wr) (fun vo _ => 8 - (intOf vo).toNat)
          case atStart => exact ⟨0, by omega, rfl, HBD.out⟩
          case round =>
            obtain ⟨o, ho, rfl, hbr⟩ := hrel
            have HBR := Lib.hid hbr
            clear hbr HBD
            by_cases hol : o < 8
            · have hoI : (o : Int) < 8 := by omega
              have hoB : decide ((o : Int) < 8) = true := decide_eq_true hoI
              go_wp2_with (with_reducible show wpList _ _ _ (Oper.mk _ (.store 25 _ _) _ _ _ _ :: _) _ _; refine Hid.out ?_)
              refine Lib.hid ?_
              have l3_0 : w.heap.size < wr.heap.size := (Array.getElem?_eq_some_iff.1 HBR.out.r0).1
              have l3_1 : w.heap.size + 1 < wr.heap.size := (Array.getElem?_eq_some_iff.1 HBR.out.r1).1
              have lw3 : w.heap.size ≤ wr.heap.size := HBR.out.below.size
              refine wpList_put rfl 25 _ _ rfl wr.heap.size #[.int .i64 d, .int .i64 (o : Int), .int .i64 f] _ 25 rfl rfl (heap_alloc_new wr _) (by kernel_rfl) rfl (by kernel_rfl) ?_
              intro w3 hr3 hg3
              have HB3 : Hid (Bx w [(wr.heap.size, .cells #[.int .i64 d, .int .i64 (o : Int), .int .i64 f] 25 (0, 0)), (w.heap.size, .cells #[.int .i64 p1, .int .i64 p2, .int .i64 p3] 25 (0, 0)), (w.heap.size + 1, .cells #[.int .u32 s1, .int .u32 s2, .int .u32 s3] 30 (0, 0))] w3) := Lib.hid ((HBR.out.make (heap_alloc_new wr (.cells #[.int .i64 0, .int .i64 0, .int .i64 0] 25)) ((Below.refl wr.heap.size wr).alloc (Nat.le_refl _) _)).put HBR.out.below.size hg3.out hr3.out (by simp only [List.mem_cons, List.not_mem_nil, or_false]; rintro p (rfl | rfl | rfl) <;> simp <;> omega))
              clear hr3 hg3 HBR
              generalize wr.heap.size = gq at *
              go_wp2_with fail
              refine Bag.region (fun wx => Below w3.heap.size w3 wx) (by kernel_rfl) (by kernel_rfl) (Below.refl _ _).drew ?_
              iterate 33 (first
                  | (apply Bag.walk_yes (by rfl)
                     (intro wx hx K hK
                      have HXx := HB3.out.next hx
                      have z0_0 : wx.cell? ⟨gq, 0, none⟩ = some (.int .i64 d) := cell_of_row _ _ _ _ _ (0, 0) HXx.r0
                      have z0_1 : wx.cell? ⟨gq, 1, none⟩ = some (.int .i64 (o : Int)) := cell_of_row _ _ _ _ _ (0, 0) HXx.r0
                      have z0_2 : wx.cell? ⟨gq, 2, none⟩ = some (.int .i64 f) := cell_of_row _ _ _ _ _ (0, 0) HXx.r0
                      have z2_0 : wx.cell? ⟨w.heap.size + 1, 0, none⟩ = some (.int .u32 s1) := cell_of_row _ _ _ _ _ (0, 0) HXx.r2
                      have z2_1 : wx.cell? ⟨w.heap.size + 1, 1, none⟩ = some (.int .u32 s2) := cell_of_row _ _ _ _ _ (0, 0) HXx.r2
                      have z2_2 : wx.cell? ⟨w.heap.size + 1, 2, none⟩ = some (.int .u32 s3) := cell_of_row _ _ _ _ _ (0, 0) HXx.r2
                      obtain ⟨e7, e8, e9⟩ := HE.out
                      first
                        | (go_simp
                           first
                            | (go_at_call 8; (with_reducible refine (FS1.out d (o : Int) f _ HXx.below).mono ?_); rintro e x1 ⟨rfl, hb⟩; exact hK _ (hx.trans (hb.mono hx.size)))
                            | (go_at_call 8; (with_reducible refine (FS2.out d (o : Int) f _ HXx.below).mono ?_); rintro e x1 ⟨rfl, hb⟩; exact hK _ (hx.trans (hb.mono hx.size)))
                            | (go_at_call 8; (with_reducible refine (FS3.out d (o : Int) f _ HXx.below).mono ?_); rintro e x1 ⟨rfl, hb⟩; exact hK _ (hx.trans (hb.mono hx.size)))
                            | (go_at_call 9; (with_reducible refine (FF.out _).mono ?_); rintro e x1 ⟨rfl, hb⟩; exact hK _ (hx.trans (hb.mono hx.size)))
                            | (go_at_K; exact hK _ hx)))
                     rfl)
                  | (refine Bag.walk_no (by rfl) ?_; simp only [Act.put, List.setIfInBounds_toArray, List.set_cons_succ, List.set_cons_zero]))
              refine Bag.walk_nil (fun w4 hb4 => ?_)
              have HB4 := Lib.hid (HB3.out.next hb4)
              clear hb4 HB3
              go_wp2_with fail
              go_roundw
              case rel => exact ⟨o + 1, by omega, by go_num, (HB4.out.less (by simp only [List.mem_cons, List.not_mem_nil, or_false]; rintro p (rfl | rfl) <;> simp))⟩
              case measure => simp [intOf]; omega
            · obtain rfl : o = 8 := by omega
              obtain ⟨hd1, hdl, hdw⟩ := HD.out
              go_wp2_with fail
              go_roundw
              case rel => exact ⟨d + 1, by omega, by omega, by go_num, HBR.out⟩
              case measure => simp [intOf]; omega
        · obtain rfl : d = 4 := by omega
          obtain ⟨hf1, hfl, hfw⟩ := HF.out
          go_wp2_with fail
          go_roundw
          case rel => exact ⟨f + 1, by omega, by omega, by go_num, HBD.out⟩
          case measure => simp [intOf]; omega
    · have hfB : decide (f ≤ (F : Int)) = false := decide_eq_false hfl
      have c0_0 : wr.cell? ⟨w.heap.size, 0, none⟩ = some (.int .i64 p1) := cell_of_row _ _ _ _ _ (0, 0) HBF.out.r0
      have c0_1 : wr.cell? ⟨w.heap.size, 1, none⟩ = some (.int .i64 p2) := cell_of_row _ _ _ _ _ (0, 0) HBF.out.r0
      have c0_2 : wr.cell? ⟨w.heap.size, 2, none⟩ = some (.int .i64 p3) := cell_of_row _ _ _ _ _ (0, 0) HBF.out.r0
      have c1_0 : wr.cell? ⟨w.heap.size + 1, 0, none⟩ = some (.int .u32 s1) := cell_of_row _ _ _ _ _ (0, 0) HBF.out.r1
      have c1_1 : wr.cell? ⟨w.heap.size + 1, 1, none⟩ = some (.int .u32 s2) := cell_of_row _ _ _ _ _ (0, 0) HBF.out.r1
      have c1_2 : wr.cell? ⟨w.heap.size + 1, 2, none⟩ = some (.int .u32 s3) := cell_of_row _ _ _ _ _ (0, 0) HBF.out.r1
      go_wp2_with fail
      refine (FS4.out _ HBF.out.below).mono ?_
      rintro e w61 ⟨rfl, hb61⟩
      have HB61 := Lib.hid (HBF.out.next hb61)
      clear hb61 HBF c0_0 c0_1 c0_2 c1_0 c1_1 c1_2
      have c0_0 : w61.cell? ⟨w.heap.size, 0, none⟩ = some (.int .i64 p1) := cell_of_row _ _ _ _ _ (0, 0) HB61.out.r0
      have c0_1 : w61.cell? ⟨w.heap.size, 1, none⟩ = some (.int .i64 p2) := cell_of_row _ _ _ _ _ (0, 0) HB61.out.r0
      have c0_2 : w61.cell? ⟨w.heap.size, 2, none⟩ = some (.int .i64 p3) := cell_of_row _ _ _ _ _ (0, 0) HB61.out.r0
      have c1_0 : w61.cell? ⟨w.heap.size + 1, 0, none⟩ = some (.int .u32 s1) := cell_of_row _ _ _ _ _ (0, 0) HB61.out.r1
      have c1_1 : w61.cell? ⟨w.heap.size + 1, 1, none⟩ = some (.int .u32 s2) := cell_of_row _ _ _ _ _ (0, 0) HB61.out.r1
      have c1_2 : w61.cell? ⟨w.heap.size + 1, 2, none⟩ = some (.int .u32 s3) := cell_of_row _ _ _ _ _ (0, 0) HB61.out.r1
      go_wp2_with fail
      refine (FS1.out p1 p2 p3 _ HB61.out.below).mono ?_
      rintro e w62 ⟨rfl, hb62⟩
      have HB62 := Lib.hid (HB61.out.next hb62)
      clear hb62 HB61 c0_0 c0_1 c0_2 c1_0 c1_1 c1_2
      go_wp2_with fail
      refine (FSA.out _ HB62.out.below).mono ?_
      rintro e w63 ⟨rfl, hb63⟩
      go_wp2_with fail
      go_ret
      exact ⟨rfl, (HB62.out.next hb63).below⟩
end Go.Proofs.YteniimbcbjbegaaDoor
