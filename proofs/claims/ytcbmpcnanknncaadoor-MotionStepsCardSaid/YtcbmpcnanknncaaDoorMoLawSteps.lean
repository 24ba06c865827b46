/- The law MotionSteps: the state, the command and the arrival of a tick, for arbitrary states and reports, and for all those of a building. No condition but the listed table. -/
import Derived.Test.YtcbmpcnanknncaaDoorMoSame
import Derived.Test.YtcbmpcnanknncaaDoorMoOpen
import Derived.Test.YtcbmpcnanknncaaDoorCards
import Derived.Test.YtcbmpcnanknncaaDoorTie
import Derived.SevenTiedAt
import Derived.Deep.CutRange
namespace Go.Proofs.YtcbmpcnanknncaaDoor
open Go.RowKit Go.ChangeShapes Go.WideShapes Go.ChangeAt

set_option maxRecDepth 100000 in
set_option maxHeartbeats 8000000 in
theorem lawMotionSteps_walk (F0 : Int) (s : Mo) (x : Cse) (w : World) (hT : Tabs w) (_h0 : (Lit.int .i64 F0).wf = true) :
    Calls Tryd.prog 3 #[.int .i64 F0, s.ag, x.ag] w fun e w' => e = .returned (.bool true) ∧ Below w.heap.size w w' := by
  obtain ⟨s1, s2, s3⟩ := s
  obtain ⟨⟨fl, lv, dr, bk⟩, wt, ⟨t0, t1, t2, t3, t4, t5, t6, t7, t8⟩⟩ := x
  change Calls Tryd.prog 3 #[.int .i64 F0, .agg #[.int .i64 s1, .int .i64 s2, .int .i64 s3], .agg #[.int .i64 fl, .bool lv, .int .i64 dr, .bool bk, .int .i64 wt, .int .i64 t0, .int .i64 t1, .int .i64 t2, .int .i64 t3, .int .i64 t4, .int .i64 t5, .int .i64 t6, .int .i64 t7, .int .i64 t8]] w _
  have FN := Lib.hid (fun wx (hb : Below w.heap.size w wx) => sane13_any wx (hT.below hb))
  have FA := Lib.hid (fun F a b c fl k wx (hb : Below w.heap.size w wx) => same13_any F t0 t1 t2 t3 t4 t5 t6 t7 t8 a b c fl lv dr bk k wx (hT.below hb))
  clear hT
  obtain ⟨b2, hb2⟩ : ∃ b2, bits .and .i64 s2 1048575 = b2 := ⟨_, rfl⟩
  obtain ⟨b7, hb7⟩ : ∃ b7, bits .and .i64 s2 7 = b7 := ⟨_, rfl⟩
  obtain ⟨U, hU, hU0⟩ : ∃ U, IntKind.u64.wrap F0 = U ∧ 0 ≤ U := ⟨_, rfl, by rw [IntKind.wrap_u64]; omega⟩
  have hm1 : IntKind.i64.wrap (U % 31) = U % 31 := by rw [IntKind.wrap_i64]; omega
  have hm2 : U.tmod 31 = U % 31 := Int.tmod_eq_emod_of_nonneg hU0
  obtain ⟨n, hne, hn⟩ : ∃ n : Int, 2 + U % 31 = n ∧ (2 ≤ n ∧ n ≤ 32) := ⟨_, rfl, by omega⟩
  have hm3 : IntKind.i64.wrap n = n := by rw [IntKind.wrap_i64]; omega
  clear hU0
  have HB0 := Lib.hid (bxs2 w (.cells #[.int .i64 s1, .int .i64 s2, .int .i64 s3] 23) (.cells #[.int .i64 fl, .bool lv, .int .i64 dr, .bool bk, .int .i64 wt, .int .i64 t0, .int .i64 t1, .int .i64 t2, .int .i64 t3, .int .i64 t4, .int .i64 t5, .int .i64 t6, .int .i64 t7, .int .i64 t8] 29))
  go_enter Tryd.func3, Tryd.ntmps3
  go_wp2_with fail
  clear hU hm1 hm2 hm3 hne
  go_loopw [8] (fun vq wr => ∃ q : Int, -1 ≤ q ∧ q ≤ 4 ∧ vq = .int .i64 q ∧ Bx w [(w.heap.size, .cells #[.int .i64 s1, .int .i64 s2, .int .i64 s3] 23 (0, 0)), (w.heap.size + 1, .cells #[.int .i64 fl, .bool lv, .int .i64 dr, .bool bk, .int .i64 wt, .int .i64 t0, .int .i64 t1, .int .i64 t2, .int .i64 t3, .int .i64 t4, .int .i64 t5, .int .i64 t6, .int .i64 t7, .int .i64 t8] 29 (0, 0))] wr) (fun vq _ => (4 - intOf vq).toNat)
  case atStart => exact ⟨-1, by omega, by omega, rfl, HB0.out⟩
  case round =>
    obtain ⟨q, hq1, hq2, rfl, hbr⟩ := hrel
    have HBQ := Lib.hid hbr
    clear hbr HB0
    by_cases hql : q < 4
    · have hqB : decide (q < 4) = true := decide_eq_true hql
      have HQ := Lib.hid (And.intro hq1 hql)
      go_wp2_with fail
      go_loopw [9] (fun vf wr => ∃ f : Int, -1 ≤ f ∧ f ≤ n + 1 ∧ vf = .int .i64 f ∧ Bx w [(w.heap.size, .cells #[.int .i64 s1, .int .i64 s2, .int .i64 s3] 23 (0, 0)), (w.heap.size + 1, .cells #[.int .i64 fl, .bool lv, .int .i64 dr, .bool bk, .int .i64 wt, .int .i64 t0, .int .i64 t1, .int .i64 t2, .int .i64 t3, .int .i64 t4, .int .i64 t5, .int .i64 t6, .int .i64 t7, .int .i64 t8] 29 (0, 0))] wr) (fun vf _ => (33 - intOf vf).toNat)
      case atStart => exact ⟨-1, by omega, by omega, rfl, HBQ.out⟩
      case round =>
        obtain ⟨f, hf1, hf2, rfl, hbr⟩ := hrel
        have HBR := Lib.hid hbr
        clear hbr HBQ
        by_cases hfl : f ≤ n
        · have hfB : decide (f ≤ n) = true := decide_eq_true hfl
          have HF := Lib.hid (And.intro hf1 hfl)
          have c0_1 : wr.cell? ⟨w.heap.size, 1, none⟩ = some (.int .i64 s2) := cell_of_row _ _ _ _ _ (0, 0) HBR.out.r0
          go_wp2_with (with_reducible show wpList _ _ _ (Oper.mk _ (.store 23 _ _) _ _ _ _ :: _) _ _; refine Hid.out ?_)
          refine Lib.hid ?_
          have l3_0 : w.heap.size < wr.heap.size := (Array.getElem?_eq_some_iff.1 HBR.out.r0).1
          have l3_1 : w.heap.size + 1 < wr.heap.size := (Array.getElem?_eq_some_iff.1 HBR.out.r1).1
          have lw3 : w.heap.size ≤ wr.heap.size := HBR.out.below.size
          refine wpList_put rfl 23 _ _ rfl wr.heap.size #[.int .i64 q, .int .i64 b2, .int .i64 f] _ 23 rfl rfl (heap_alloc_new wr _) (by kernel_rfl) rfl (by kernel_rfl) ?_
          intro w3 hr3 hg3
          have HB3 : Hid (Bx w [(wr.heap.size, .cells #[.int .i64 q, .int .i64 b2, .int .i64 f] 23 (0, 0)), (w.heap.size, .cells #[.int .i64 s1, .int .i64 s2, .int .i64 s3] 23 (0, 0)), (w.heap.size + 1, .cells #[.int .i64 fl, .bool lv, .int .i64 dr, .bool bk, .int .i64 wt, .int .i64 t0, .int .i64 t1, .int .i64 t2, .int .i64 t3, .int .i64 t4, .int .i64 t5, .int .i64 t6, .int .i64 t7, .int .i64 t8] 29 (0, 0))] w3) := Lib.hid ((HBR.out.make (heap_alloc_new wr (.cells #[.int .i64 0, .int .i64 0, .int .i64 0] 23)) ((Below.refl wr.heap.size wr).alloc (Nat.le_refl _) _)).put HBR.out.below.size hg3.out hr3.out (by simp only [List.mem_cons, List.not_mem_nil, or_false]; rintro p (rfl | rfl | rfl) <;> simp <;> omega))
          clear c0_1 hr3 hg3 HBR
          generalize wr.heap.size = gt at *
          go_wp2_with fail
          go_loopw [11] (fun vd wr => ∃ d : Int, -2 ≤ d ∧ d ≤ 3 ∧ vd = .int .i64 d ∧ Bx w [(gt, .cells #[.int .i64 q, .int .i64 b2, .int .i64 f] 23 (0, 0)), (w.heap.size, .cells #[.int .i64 s1, .int .i64 s2, .int .i64 s3] 23 (0, 0)), (w.heap.size + 1, .cells #[.int .i64 fl, .bool lv, .int .i64 dr, .bool bk, .int .i64 wt, .int .i64 t0, .int .i64 t1, .int .i64 t2, .int .i64 t3, .int .i64 t4, .int .i64 t5, .int .i64 t6, .int .i64 t7, .int .i64 t8] 29 (0, 0))] wr) (fun vd _ => (3 - intOf vd).toNat)
          case atStart => exact ⟨-2, by omega, by omega, rfl, HB3.out⟩
          case round =>
            obtain ⟨d, hd1, hd2, rfl, hbr⟩ := hrel
            have HBD := Lib.hid hbr
            clear hbr HB3
            by_cases hdl : d < 3
            · have hdB : decide (d < 3) = true := decide_eq_true hdl
              obtain ⟨hf1, hfl⟩ := HF.out
              have hw1 : IntKind.i64.wrap (f + d) = f + d := by rw [IntKind.wrap_i64]; omega
              have hw2 : IntKind.i64.wrap (d + 1) = d + 1 := by rw [IntKind.wrap_i64]; omega
              have FS1 := Lib.hid (fun wx hb => FA.out n q b2 f (f + d) (d + 1) wx hb)
              have FS2 := Lib.hid (fun wx hb => FA.out n 0 b7 0 (f + d) (d + 1) wx hb)
              have c0_0 : wr.cell? ⟨gt, 0, none⟩ = some (.int .i64 q) := cell_of_row _ _ _ _ _ (0, 0) HBD.out.r0
              have c0_1 : wr.cell? ⟨gt, 1, none⟩ = some (.int .i64 b2) := cell_of_row _ _ _ _ _ (0, 0) HBD.out.r0
              have c0_2 : wr.cell? ⟨gt, 2, none⟩ = some (.int .i64 f) := cell_of_row _ _ _ _ _ (0, 0) HBD.out.r0
              have c1_1 : wr.cell? ⟨w.heap.size, 1, none⟩ = some (.int .i64 s2) := cell_of_row _ _ _ _ _ (0, 0) HBD.out.r1
              have c2_0 : wr.cell? ⟨w.heap.size + 1, 0, none⟩ = some (.int .i64 fl) := cell_of_row _ _ _ _ _ (0, 0) HBD.out.r2
              have c2_1 : wr.cell? ⟨w.heap.size + 1, 1, none⟩ = some (.bool lv) := cell_of_row _ _ _ _ _ (0, 0) HBD.out.r2
              have c2_2 : wr.cell? ⟨w.heap.size + 1, 2, none⟩ = some (.int .i64 dr) := cell_of_row _ _ _ _ _ (0, 0) HBD.out.r2
              have c2_3 : wr.cell? ⟨w.heap.size + 1, 3, none⟩ = some (.bool bk) := cell_of_row _ _ _ _ _ (0, 0) HBD.out.r2
              have c2_4 : wr.cell? ⟨w.heap.size + 1, 4, none⟩ = some (.int .i64 wt) := cell_of_row _ _ _ _ _ (0, 0) HBD.out.r2
              have c2_5 : wr.cell? ⟨w.heap.size + 1, 5, none⟩ = some (.int .i64 t0) := cell_of_row _ _ _ _ _ (0, 0) HBD.out.r2
              have c2_6 : wr.cell? ⟨w.heap.size + 1, 6, none⟩ = some (.int .i64 t1) := cell_of_row _ _ _ _ _ (0, 0) HBD.out.r2
              have c2_7 : wr.cell? ⟨w.heap.size + 1, 7, none⟩ = some (.int .i64 t2) := cell_of_row _ _ _ _ _ (0, 0) HBD.out.r2
              have c2_8 : wr.cell? ⟨w.heap.size + 1, 8, none⟩ = some (.int .i64 t3) := cell_of_row _ _ _ _ _ (0, 0) HBD.out.r2
              have c2_9 : wr.cell? ⟨w.heap.size + 1, 9, none⟩ = some (.int .i64 t4) := cell_of_row _ _ _ _ _ (0, 0) HBD.out.r2
              have c2_10 : wr.cell? ⟨w.heap.size + 1, 10, none⟩ = some (.int .i64 t5) := cell_of_row _ _ _ _ _ (0, 0) HBD.out.r2
              have c2_11 : wr.cell? ⟨w.heap.size + 1, 11, none⟩ = some (.int .i64 t6) := cell_of_row _ _ _ _ _ (0, 0) HBD.out.r2
              have c2_12 : wr.cell? ⟨w.heap.size + 1, 12, none⟩ = some (.int .i64 t7) := cell_of_row _ _ _ _ _ (0, 0) HBD.out.r2
              have c2_13 : wr.cell? ⟨w.heap.size + 1, 13, none⟩ = some (.int .i64 t8) := cell_of_row _ _ _ _ _ (0, 0) HBD.out.r2
              go_wp2_with (with_reducible show wpList _ _ _ (Oper.mk _ (.store 25 _ _) _ _ _ _ :: _) _ _; refine Hid.out ?_)
              refine Lib.hid ?_
              have l21_0 : gt < wr.heap.size := (Array.getElem?_eq_some_iff.1 HBD.out.r0).1
              have l21_1 : w.heap.size < wr.heap.size := (Array.getElem?_eq_some_iff.1 HBD.out.r1).1
              have l21_2 : w.heap.size + 1 < wr.heap.size := (Array.getElem?_eq_some_iff.1 HBD.out.r2).1
              have lw21 : w.heap.size ≤ wr.heap.size := HBD.out.below.size
              refine wpList_put rfl 25 _ _ rfl wr.heap.size #[.int .i64 fl, .bool lv, .int .i64 dr, .bool bk] _ 25 rfl rfl (heap_alloc_new wr _) (by kernel_rfl) rfl (by kernel_rfl) ?_
              intro w21 hr21 hg21
              have HB21 : Hid (Bx w [(wr.heap.size, .cells #[.int .i64 fl, .bool lv, .int .i64 dr, .bool bk] 25 (0, 0)), (gt, .cells #[.int .i64 q, .int .i64 b2, .int .i64 f] 23 (0, 0)), (w.heap.size, .cells #[.int .i64 s1, .int .i64 s2, .int .i64 s3] 23 (0, 0)), (w.heap.size + 1, .cells #[.int .i64 fl, .bool lv, .int .i64 dr, .bool bk, .int .i64 wt, .int .i64 t0, .int .i64 t1, .int .i64 t2, .int .i64 t3, .int .i64 t4, .int .i64 t5, .int .i64 t6, .int .i64 t7, .int .i64 t8] 29 (0, 0))] w21) := Lib.hid ((HBD.out.make (heap_alloc_new wr (.cells #[.int .i64 0, .bool false, .int .i64 0, .bool false] 25)) ((Below.refl wr.heap.size wr).alloc (Nat.le_refl _) _)).put HBD.out.below.size hg21.out hr21.out (by simp only [List.mem_cons, List.not_mem_nil, or_false]; rintro p (rfl | rfl | rfl | rfl) <;> simp <;> omega))
              clear c0_0 c0_1 c0_2 c1_1 c2_0 c2_1 c2_2 c2_3 c2_4 c2_5 c2_6 c2_7 c2_8 c2_9 c2_10 c2_11 c2_12 c2_13 hr21 hg21 HBD
              generalize wr.heap.size = gf at *
              have c0_0 : w21.cell? ⟨gf, 0, none⟩ = some (.int .i64 fl) := cell_of_row _ _ _ _ _ (0, 0) HB21.out.r0
              have c0_1 : w21.cell? ⟨gf, 1, none⟩ = some (.bool lv) := cell_of_row _ _ _ _ _ (0, 0) HB21.out.r0
              have c0_2 : w21.cell? ⟨gf, 2, none⟩ = some (.int .i64 dr) := cell_of_row _ _ _ _ _ (0, 0) HB21.out.r0
              have c0_3 : w21.cell? ⟨gf, 3, none⟩ = some (.bool bk) := cell_of_row _ _ _ _ _ (0, 0) HB21.out.r0
              have c1_0 : w21.cell? ⟨gt, 0, none⟩ = some (.int .i64 q) := cell_of_row _ _ _ _ _ (0, 0) HB21.out.r1
              have c1_1 : w21.cell? ⟨gt, 1, none⟩ = some (.int .i64 b2) := cell_of_row _ _ _ _ _ (0, 0) HB21.out.r1
              have c1_2 : w21.cell? ⟨gt, 2, none⟩ = some (.int .i64 f) := cell_of_row _ _ _ _ _ (0, 0) HB21.out.r1
              have c2_1 : w21.cell? ⟨w.heap.size, 1, none⟩ = some (.int .i64 s2) := cell_of_row _ _ _ _ _ (0, 0) HB21.out.r2
              have c3_0 : w21.cell? ⟨w.heap.size + 1, 0, none⟩ = some (.int .i64 fl) := cell_of_row _ _ _ _ _ (0, 0) HB21.out.r3
              have c3_1 : w21.cell? ⟨w.heap.size + 1, 1, none⟩ = some (.bool lv) := cell_of_row _ _ _ _ _ (0, 0) HB21.out.r3
              have c3_2 : w21.cell? ⟨w.heap.size + 1, 2, none⟩ = some (.int .i64 dr) := cell_of_row _ _ _ _ _ (0, 0) HB21.out.r3
              have c3_3 : w21.cell? ⟨w.heap.size + 1, 3, none⟩ = some (.bool bk) := cell_of_row _ _ _ _ _ (0, 0) HB21.out.r3
              have c3_4 : w21.cell? ⟨w.heap.size + 1, 4, none⟩ = some (.int .i64 wt) := cell_of_row _ _ _ _ _ (0, 0) HB21.out.r3
              have c3_5 : w21.cell? ⟨w.heap.size + 1, 5, none⟩ = some (.int .i64 t0) := cell_of_row _ _ _ _ _ (0, 0) HB21.out.r3
              have c3_6 : w21.cell? ⟨w.heap.size + 1, 6, none⟩ = some (.int .i64 t1) := cell_of_row _ _ _ _ _ (0, 0) HB21.out.r3
              have c3_7 : w21.cell? ⟨w.heap.size + 1, 7, none⟩ = some (.int .i64 t2) := cell_of_row _ _ _ _ _ (0, 0) HB21.out.r3
              have c3_8 : w21.cell? ⟨w.heap.size + 1, 8, none⟩ = some (.int .i64 t3) := cell_of_row _ _ _ _ _ (0, 0) HB21.out.r3
              have c3_9 : w21.cell? ⟨w.heap.size + 1, 9, none⟩ = some (.int .i64 t4) := cell_of_row _ _ _ _ _ (0, 0) HB21.out.r3
              have c3_10 : w21.cell? ⟨w.heap.size + 1, 10, none⟩ = some (.int .i64 t5) := cell_of_row _ _ _ _ _ (0, 0) HB21.out.r3
              have c3_11 : w21.cell? ⟨w.heap.size + 1, 11, none⟩ = some (.int .i64 t6) := cell_of_row _ _ _ _ _ (0, 0) HB21.out.r3
              have c3_12 : w21.cell? ⟨w.heap.size + 1, 12, none⟩ = some (.int .i64 t7) := cell_of_row _ _ _ _ _ (0, 0) HB21.out.r3
              have c3_13 : w21.cell? ⟨w.heap.size + 1, 13, none⟩ = some (.int .i64 t8) := cell_of_row _ _ _ _ _ (0, 0) HB21.out.r3
              go_wp2_with (with_reducible show wpList _ _ _ (Oper.mk _ (.store 3 _ _) _ _ _ _ :: _) _ _; refine Hid.out ?_)
              refine Lib.hid ?_
              refine wpList_putCell rfl 3 _ _ rfl (gf) 0 (.int .i64 (f + d)) _ _ 25 rfl rfl HB21.out.r0 (by kernel_rfl) (by simp) rfl rfl rfl ?_
              intro w22 hr22 hg22
              have HB22 : Hid (Bx w [(gf, .cells #[.int .i64 (f + d), .bool lv, .int .i64 dr, .bool bk] 25 (0, 0)), (gt, .cells #[.int .i64 q, .int .i64 b2, .int .i64 f] 23 (0, 0)), (w.heap.size, .cells #[.int .i64 s1, .int .i64 s2, .int .i64 s3] 23 (0, 0)), (w.heap.size + 1, .cells #[.int .i64 fl, .bool lv, .int .i64 dr, .bool bk, .int .i64 wt, .int .i64 t0, .int .i64 t1, .int .i64 t2, .int .i64 t3, .int .i64 t4, .int .i64 t5, .int .i64 t6, .int .i64 t7, .int .i64 t8] 29 (0, 0))] w22) := Lib.hid (HB21.out.put (by omega) hg22.out hr22.out (by simp only [List.mem_cons, List.not_mem_nil, or_false]; rintro p (rfl | rfl | rfl | rfl) <;> simp <;> omega))
              clear c0_0 c0_1 c0_2 c0_3 c1_0 c1_1 c1_2 c2_1 c3_0 c3_1 c3_2 c3_3 c3_4 c3_5 c3_6 c3_7 c3_8 c3_9 c3_10 c3_11 c3_12 c3_13 hr22 hg22 HB21
              have c0_0 : w22.cell? ⟨gf, 0, none⟩ = some (.int .i64 (f + d)) := cell_of_row _ _ _ _ _ (0, 0) HB22.out.r0
              have c0_1 : w22.cell? ⟨gf, 1, none⟩ = some (.bool lv) := cell_of_row _ _ _ _ _ (0, 0) HB22.out.r0
              have c0_2 : w22.cell? ⟨gf, 2, none⟩ = some (.int .i64 dr) := cell_of_row _ _ _ _ _ (0, 0) HB22.out.r0
              have c0_3 : w22.cell? ⟨gf, 3, none⟩ = some (.bool bk) := cell_of_row _ _ _ _ _ (0, 0) HB22.out.r0
              have c1_0 : w22.cell? ⟨gt, 0, none⟩ = some (.int .i64 q) := cell_of_row _ _ _ _ _ (0, 0) HB22.out.r1
              have c1_1 : w22.cell? ⟨gt, 1, none⟩ = some (.int .i64 b2) := cell_of_row _ _ _ _ _ (0, 0) HB22.out.r1
              have c1_2 : w22.cell? ⟨gt, 2, none⟩ = some (.int .i64 f) := cell_of_row _ _ _ _ _ (0, 0) HB22.out.r1
              have c2_1 : w22.cell? ⟨w.heap.size, 1, none⟩ = some (.int .i64 s2) := cell_of_row _ _ _ _ _ (0, 0) HB22.out.r2
              have c3_0 : w22.cell? ⟨w.heap.size + 1, 0, none⟩ = some (.int .i64 fl) := cell_of_row _ _ _ _ _ (0, 0) HB22.out.r3
              have c3_1 : w22.cell? ⟨w.heap.size + 1, 1, none⟩ = some (.bool lv) := cell_of_row _ _ _ _ _ (0, 0) HB22.out.r3
              have c3_2 : w22.cell? ⟨w.heap.size + 1, 2, none⟩ = some (.int .i64 dr) := cell_of_row _ _ _ _ _ (0, 0) HB22.out.r3
              have c3_3 : w22.cell? ⟨w.heap.size + 1, 3, none⟩ = some (.bool bk) := cell_of_row _ _ _ _ _ (0, 0) HB22.out.r3
              have c3_4 : w22.cell? ⟨w.heap.size + 1, 4, none⟩ = some (.int .i64 wt) := cell_of_row _ _ _ _ _ (0, 0) HB22.out.r3
              have c3_5 : w22.cell? ⟨w.heap.size + 1, 5, none⟩ = some (.int .i64 t0) := cell_of_row _ _ _ _ _ (0, 0) HB22.out.r3
              have c3_6 : w22.cell? ⟨w.heap.size + 1, 6, none⟩ = some (.int .i64 t1) := cell_of_row _ _ _ _ _ (0, 0) HB22.out.r3
              have c3_7 : w22.cell? ⟨w.heap.size + 1, 7, none⟩ = some (.int .i64 t2) := cell_of_row _ _ _ _ _ (0, 0) HB22.out.r3
              have c3_8 : w22.cell? ⟨w.heap.size + 1, 8, none⟩ = some (.int .i64 t3) := cell_of_row _ _ _ _ _ (0, 0) HB22.out.r3
              have c3_9 : w22.cell? ⟨w.heap.size + 1, 9, none⟩ = some (.int .i64 t4) := cell_of_row _ _ _ _ _ (0, 0) HB22.out.r3
              have c3_10 : w22.cell? ⟨w.heap.size + 1, 10, none⟩ = some (.int .i64 t5) := cell_of_row _ _ _ _ _ (0, 0) HB22.out.r3
              have c3_11 : w22.cell? ⟨w.heap.size + 1, 11, none⟩ = some (.int .i64 t6) := cell_of_row _ _ _ _ _ (0, 0) HB22.out.r3
              have c3_12 : w22.cell? ⟨w.heap.size + 1, 12, none⟩ = some (.int .i64 t7) := cell_of_row _ _ _ _ _ (0, 0) HB22.out.r3
              have c3_13 : w22.cell? ⟨w.heap.size + 1, 13, none⟩ = some (.int .i64 t8) := cell_of_row _ _ _ _ _ (0, 0) HB22.out.r3
              go_wp2_with fail
              refine (FS1.out _ HB22.out.below).mono ?_
              rintro e w23 ⟨rfl, hb23⟩
              have HB23 := Lib.hid (HB22.out.next hb23)
              clear c0_0 c0_1 c0_2 c0_3 c1_0 c1_1 c1_2 c2_1 c3_0 c3_1 c3_2 c3_3 c3_4 c3_5 c3_6 c3_7 c3_8 c3_9 c3_10 c3_11 c3_12 c3_13 hb23 HB22
              have c0_0 : w23.cell? ⟨gf, 0, none⟩ = some (.int .i64 (f + d)) := cell_of_row _ _ _ _ _ (0, 0) HB23.out.r0
              have c0_1 : w23.cell? ⟨gf, 1, none⟩ = some (.bool lv) := cell_of_row _ _ _ _ _ (0, 0) HB23.out.r0
              have c0_2 : w23.cell? ⟨gf, 2, none⟩ = some (.int .i64 dr) := cell_of_row _ _ _ _ _ (0, 0) HB23.out.r0
              have c0_3 : w23.cell? ⟨gf, 3, none⟩ = some (.bool bk) := cell_of_row _ _ _ _ _ (0, 0) HB23.out.r0
              have c1_0 : w23.cell? ⟨gt, 0, none⟩ = some (.int .i64 q) := cell_of_row _ _ _ _ _ (0, 0) HB23.out.r1
              have c1_1 : w23.cell? ⟨gt, 1, none⟩ = some (.int .i64 b2) := cell_of_row _ _ _ _ _ (0, 0) HB23.out.r1
              have c1_2 : w23.cell? ⟨gt, 2, none⟩ = some (.int .i64 f) := cell_of_row _ _ _ _ _ (0, 0) HB23.out.r1
              have c2_1 : w23.cell? ⟨w.heap.size, 1, none⟩ = some (.int .i64 s2) := cell_of_row _ _ _ _ _ (0, 0) HB23.out.r2
              have c3_0 : w23.cell? ⟨w.heap.size + 1, 0, none⟩ = some (.int .i64 fl) := cell_of_row _ _ _ _ _ (0, 0) HB23.out.r3
              have c3_1 : w23.cell? ⟨w.heap.size + 1, 1, none⟩ = some (.bool lv) := cell_of_row _ _ _ _ _ (0, 0) HB23.out.r3
              have c3_2 : w23.cell? ⟨w.heap.size + 1, 2, none⟩ = some (.int .i64 dr) := cell_of_row _ _ _ _ _ (0, 0) HB23.out.r3
              have c3_3 : w23.cell? ⟨w.heap.size + 1, 3, none⟩ = some (.bool bk) := cell_of_row _ _ _ _ _ (0, 0) HB23.out.r3
              have c3_4 : w23.cell? ⟨w.heap.size + 1, 4, none⟩ = some (.int .i64 wt) := cell_of_row _ _ _ _ _ (0, 0) HB23.out.r3
              have c3_5 : w23.cell? ⟨w.heap.size + 1, 5, none⟩ = some (.int .i64 t0) := cell_of_row _ _ _ _ _ (0, 0) HB23.out.r3
              have c3_6 : w23.cell? ⟨w.heap.size + 1, 6, none⟩ = some (.int .i64 t1) := cell_of_row _ _ _ _ _ (0, 0) HB23.out.r3
              have c3_7 : w23.cell? ⟨w.heap.size + 1, 7, none⟩ = some (.int .i64 t2) := cell_of_row _ _ _ _ _ (0, 0) HB23.out.r3
              have c3_8 : w23.cell? ⟨w.heap.size + 1, 8, none⟩ = some (.int .i64 t3) := cell_of_row _ _ _ _ _ (0, 0) HB23.out.r3
              have c3_9 : w23.cell? ⟨w.heap.size + 1, 9, none⟩ = some (.int .i64 t4) := cell_of_row _ _ _ _ _ (0, 0) HB23.out.r3
              have c3_10 : w23.cell? ⟨w.heap.size + 1, 10, none⟩ = some (.int .i64 t5) := cell_of_row _ _ _ _ _ (0, 0) HB23.out.r3
              have c3_11 : w23.cell? ⟨w.heap.size + 1, 11, none⟩ = some (.int .i64 t6) := cell_of_row _ _ _ _ _ (0, 0) HB23.out.r3
              have c3_12 : w23.cell? ⟨w.heap.size + 1, 12, none⟩ = some (.int .i64 t7) := cell_of_row _ _ _ _ _ (0, 0) HB23.out.r3
              have c3_13 : w23.cell? ⟨w.heap.size + 1, 13, none⟩ = some (.int .i64 t8) := cell_of_row _ _ _ _ _ (0, 0) HB23.out.r3
              go_wp2_with fail
              refine (FS2.out _ HB23.out.below).mono ?_
              rintro e w24 ⟨rfl, hb24⟩
              have HB24 := Lib.hid (HB23.out.next hb24)
              clear c0_0 c0_1 c0_2 c0_3 c1_0 c1_1 c1_2 c2_1 c3_0 c3_1 c3_2 c3_3 c3_4 c3_5 c3_6 c3_7 c3_8 c3_9 c3_10 c3_11 c3_12 c3_13 hb24 HB23
              go_wp2_with fail
              go_roundw
              case rel => exact ⟨d + 1, by omega, by omega, rfl, (HB24.out.less (by simp only [List.mem_cons, List.not_mem_nil, or_false]; rintro p (rfl | rfl | rfl) <;> simp))⟩
              case measure => simp [intOf]; omega
            · have hwf : IntKind.i64.wrap (f + 1) = f + 1 := by have := HF.out; rw [IntKind.wrap_i64]; omega
              obtain ⟨hf1, hfl⟩ := HF.out
              have hdB : decide (d < 3) = false := decide_eq_false hdl
              go_wp2_with fail
              go_roundw
              case rel => exact ⟨f + 1, by omega, by omega, rfl, (HBD.out.less (by simp only [List.mem_cons, List.not_mem_nil, or_false]; rintro p (rfl | rfl) <;> simp))⟩
              case measure => simp [intOf]; omega
        · have hfB : decide (f ≤ n) = false := decide_eq_false hfl
          obtain ⟨hq1, hql⟩ := HQ.out
          have hwq : IntKind.i64.wrap (q + 1) = q + 1 := by rw [IntKind.wrap_i64]; omega
          go_wp2_with fail
          go_roundw
          case rel => exact ⟨q + 1, by omega, by omega, rfl, HBR.out⟩
          case measure => simp [intOf]; omega
    · have hqB : decide (q < 4) = false := decide_eq_false hql
      have FS1 := Lib.hid (fun wx hb => FA.out F0 s1 s2 s3 fl wt wx hb)
      have c0_0 : wr.cell? ⟨w.heap.size, 0, none⟩ = some (.int .i64 s1) := cell_of_row _ _ _ _ _ (0, 0) HBQ.out.r0
      have c0_1 : wr.cell? ⟨w.heap.size, 1, none⟩ = some (.int .i64 s2) := cell_of_row _ _ _ _ _ (0, 0) HBQ.out.r0
      have c0_2 : wr.cell? ⟨w.heap.size, 2, none⟩ = some (.int .i64 s3) := cell_of_row _ _ _ _ _ (0, 0) HBQ.out.r0
      have c1_0 : wr.cell? ⟨w.heap.size + 1, 0, none⟩ = some (.int .i64 fl) := cell_of_row _ _ _ _ _ (0, 0) HBQ.out.r1
      have c1_1 : wr.cell? ⟨w.heap.size + 1, 1, none⟩ = some (.bool lv) := cell_of_row _ _ _ _ _ (0, 0) HBQ.out.r1
      have c1_2 : wr.cell? ⟨w.heap.size + 1, 2, none⟩ = some (.int .i64 dr) := cell_of_row _ _ _ _ _ (0, 0) HBQ.out.r1
      have c1_3 : wr.cell? ⟨w.heap.size + 1, 3, none⟩ = some (.bool bk) := cell_of_row _ _ _ _ _ (0, 0) HBQ.out.r1
      have c1_4 : wr.cell? ⟨w.heap.size + 1, 4, none⟩ = some (.int .i64 wt) := cell_of_row _ _ _ _ _ (0, 0) HBQ.out.r1
      have c1_5 : wr.cell? ⟨w.heap.size + 1, 5, none⟩ = some (.int .i64 t0) := cell_of_row _ _ _ _ _ (0, 0) HBQ.out.r1
      have c1_6 : wr.cell? ⟨w.heap.size + 1, 6, none⟩ = some (.int .i64 t1) := cell_of_row _ _ _ _ _ (0, 0) HBQ.out.r1
      have c1_7 : wr.cell? ⟨w.heap.size + 1, 7, none⟩ = some (.int .i64 t2) := cell_of_row _ _ _ _ _ (0, 0) HBQ.out.r1
      have c1_8 : wr.cell? ⟨w.heap.size + 1, 8, none⟩ = some (.int .i64 t3) := cell_of_row _ _ _ _ _ (0, 0) HBQ.out.r1
      have c1_9 : wr.cell? ⟨w.heap.size + 1, 9, none⟩ = some (.int .i64 t4) := cell_of_row _ _ _ _ _ (0, 0) HBQ.out.r1
      have c1_10 : wr.cell? ⟨w.heap.size + 1, 10, none⟩ = some (.int .i64 t5) := cell_of_row _ _ _ _ _ (0, 0) HBQ.out.r1
      have c1_11 : wr.cell? ⟨w.heap.size + 1, 11, none⟩ = some (.int .i64 t6) := cell_of_row _ _ _ _ _ (0, 0) HBQ.out.r1
      have c1_12 : wr.cell? ⟨w.heap.size + 1, 12, none⟩ = some (.int .i64 t7) := cell_of_row _ _ _ _ _ (0, 0) HBQ.out.r1
      have c1_13 : wr.cell? ⟨w.heap.size + 1, 13, none⟩ = some (.int .i64 t8) := cell_of_row _ _ _ _ _ (0, 0) HBQ.out.r1
      go_wp2_with fail
      refine (FS1.out _ HBQ.out.below).mono ?_
      rintro e w81 ⟨rfl, hb81⟩
      have HB81 := Lib.hid (HBQ.out.next hb81)
      clear c0_0 c0_1 c0_2 c1_0 c1_1 c1_2 c1_3 c1_4 c1_5 c1_6 c1_7 c1_8 c1_9 c1_10 c1_11 c1_12 c1_13 hb81 HBQ
      go_wp2_with fail
      refine (FN.out _ HB81.out.below).mono ?_
      rintro e w82 ⟨rfl, hb82⟩
      have HB82 := Lib.hid (HB81.out.next hb82)
      clear hb82 HB81
      go_wp2_with fail
      go_ret
      exact ⟨rfl, HB82.out.below⟩
set_option maxRecDepth 100000 in
theorem lawMotionSteps_lifted (os : Os) (started : os.Started) (H : Type) (enc : TypeId × Value → H) :
    ReturnsInHanded {} Tryd.checked os 3 .any (fun w args => (Rows.motionStepsSpec.pre enc Tryd.prog Tryd.f3 [] false w args ∧ laidMetH Tryd.prog laidAll w) ∧ sizedMet enc Tryd.prog Tryd.f3 (OpenSpec.ofChange Rows.motionStepsSpec) false w args) (Rows.motionStepsSpec.post enc Tryd.prog Tryd.f3 false true false false) := by
  refine returnsInHanded_of_change_and (C := Tryd.checked) (X := fun w _ => laidMetH Tryd.prog laidAll w) (fun _ _ _ hh h => h.of_heap hh) own started (by kernel_rfl) Tryd.func3
    (ChangeSpec.witness_shaped (enc := enc) (C := Tryd.checked) (os := os) (X := fun w _ => laidMetH Tryd.prog laidAll w) false (World.doorLaid Tryd.prog 14 os) #[.int .i64 0, .agg #[.int .i64 0, .int .i64 0, .int .i64 0], .agg #[.int .i64 0, .bool false, .int .i64 0, .bool false, .int .i64 0, .int .i64 0, .int .i64 0, .int .i64 0, .int .i64 0, .int .i64 0, .int .i64 0, .int .i64 0, .int .i64 0, .int .i64 0]] 8 rfl (World.shaped_of_RefB (by kernel_rfl) (by kernel_rfl)) (by kernel_rfl) (by kernel_rfl) (by kernel_rfl) (door_met os _)) ?_
  intro W base args ds gs before hval0 hW _ _ hL _
  have hval : ∀ (j : Nat) t v, Tryd.f3.params[j]? = some t → args[j]? = some v → Value.okWide Tryd.prog W .any base t v := hval0
  have hW' := hW
  obtain ⟨p, q, hA0, hV, rfl, hfz, hnd⟩ := hW
  have hA : DataW.TrodAll enc Tryd.prog W 0 (fun _ => true) true Tryd.f3.params.toList args.toList ds p := hA0
  rw [Tryd.params3] at hA hval
  obtain ⟨v0, vs0, d0, ds0, p0, q0, hargs, rfl, rfl, h0, r0⟩ := trodAll_cons hA
  obtain ⟨v1, vs1, d1, ds1, p1, q1, rfl, rfl, rfl, h1, r1⟩ := trodAll_cons r0
  obtain ⟨v2, vs2, d2, ds2, p2, q2, rfl, rfl, rfl, h2, r2⟩ := trodAll_cons r1
  obtain ⟨rfl, rfl, rfl⟩ := trodAll_nil r2
  obtain rfl : args = #[v0, v1, v2] := by cases args; simp_all
  obtain ⟨rfl, rfl⟩ := trodVars_none hV
  obtain ⟨x0, rfl, rfl, rfl, g0⟩ := open_int Tryd.underlying3 (hval 0 3 v0 rfl rfl) h0
  have k1 := h1
  have lt1 : ∀ x ∈ p1, x.block < W.heap.size := by obtain ⟨m, hm⟩ := k1; exact DataW.trod_lt m _ _ _ hm
  obtain ⟨x1, rfl⟩ := open_mo (hval 1 23 v1 rfl rfl) h1
  have k2 := h2
  have lt2 : ∀ x ∈ p2, x.block < W.heap.size := by obtain ⟨m, hm⟩ := k2; exact DataW.trod_lt m _ _ _ hm
  obtain ⟨x2, rfl⟩ := open_cse (hval 2 29 v2 rfl rfl) h2
  clear hA0 hval0
  refine (lawMotionSteps_walk x0 x1 x2 W (tabs_of_laid hL) g0).mono fun e W' ⟨he, bel⟩ => ?_
  subst he
  exact ⟨_, rfl, _, _, _, [], _, [], hW', trodAll_mk1 (shut_bool Tryd.underlying4 _), (trodAll_cons_mk (shut_int Tryd.underlying3 g0) (trodAll_cons_mk (Below.trod laidOut (by kernel_rfl) (of_decide_eq_true (by kernel_rfl)) k1 bel lt1) (trodAll_cons_mk (Below.trod laidOut (by kernel_rfl) (of_decide_eq_true (by kernel_rfl)) k2 bel lt2) trodAll_mk0))), rfl, bel.frame _, fun h => by cases h⟩

theorem lawMotionSteps_over : Rows.motionStepsRow.holds Tryd.pinned (OpenSpec.ofChange Rows.motionStepsSpec) :=
  OpenClaim.holds_of_wide 3 Tryd.f3 rfl rfl rfl rfl rfl rfl rfl ⟨rfl, rfl, rfl, rfl, rfl⟩ rfl rfl rfl rfl rfl (by kernel_rfl) Tryd.func3 (by kernel_rfl)
    (of_decide_eq_true (by kernel_rfl)) (by unfold Func.isWrapper; first | (rw [if_pos (by decide +kernel)]; kernel_rfl) | (rw [if_neg (by decide +kernel)]; exact ⟨rfl, rfl⟩))
    (fun os started H enc _ => lawMotionSteps_lifted os started H enc)

theorem motionSteps_card : Rows.MotionStepsCardSaid :=
  Claim7.holds_tied_plain_at .later [] _ _ _ _ lawMotionSteps_over (fun _ h => by cases h) (by kernel_rfl) (fun _ h => by cases h) motionSteps_row_tie rfl ⟨rfl, rfl⟩ (by kernel_rfl) rfl
    (fun f fn hf hfn => by
      obtain rfl : f = 3 := Option.some.inj ((show Tryd.prog.funcNamed "overlay/overlaylaw13.MotionSteps" = some 3 by kernel_rfl).symm.trans hf) |>.symm
      obtain rfl : fn = Tryd.f3 := (Option.some.inj (Tryd.func3.symm.trans hfn)).symm
      exact ⟨by kernel_rfl, fun j t ht => by
        rw [Tryd.params3] at ht
        have hm : t ∈ [3, 23, 29] := by simpa using Array.mem_of_getElem? ht
        have hall : ([3, 23, 29].all fun u => !Tryd.prog.wantsStandIn u) = true := by kernel_rfl
        exact (show Tryd.prog.wantsStandIn t = false by simpa using List.all_eq_true.1 hall t hm)⟩)
    (by kernel_rfl)
#print axioms motionSteps_card
end Go.Proofs.YtcbmpcnanknncaaDoor
