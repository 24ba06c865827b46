/- The reference's Spent and its scene. No statement of the seat is proved here. -/
import Derived.Test.YteniimbcbjbegaaDoorCvRefM
import Derived.Test.YteniimbcbjbegaaDoorDecl1
import Derived.Test.YteniimbcbjbegaaDoorBx2
namespace Go.Proofs.YteniimbcbjbegaaDoor
open Go.RowKit Ghost

set_option maxHeartbeats 4000000 in
theorem refSpentGood_any (F f d o : Nat) (s : Stp) (w : World) (hF1 : 2 ≤ F) (hF : F ≤ 32) (hf : f < F) (hd : d ≤ 2) (ho : o ≤ 7) (hs : s.ok) :
    Calls Tryd.prog 20 #[.int .i64 (F : Int), .agg #[.int .i64 (d : Int), .int .i64 (o : Int)], .int .i64 (f : Int), s.agg] w fun ee w' => ee = .returned ((Cv.spent F o f s).agg) ∧ Below w.heap.size w w' := by
  have g1 : ¬ (F : Int) < 2 := by omega
  have g2 : ¬ (32 : Int) < (F : Int) := by omega
  have g3 : ¬ (f : Int) < 0 := by omega
  have g4 : ¬ (F : Int) ≤ (f : Int) := by omega
  have g5 : decide ((F : Int) > 32) = false := decide_eq_false (by omega)
  have g6 : decide ((f : Int) ≥ (F : Int)) = false := decide_eq_false (by omega)
  have FI := Lib.hid (fun wx => refIsSweep_any (d : Int) (o : Int) wx)
  rw [show isSw (d : Int) (o : Int) = true by unfold isSw; simp; omega] at FI
  have FP := Lib.hid (fun wx => refProper_any F s wx (by omega) hF hs)
  have hto := Cv.cnt_ok (F := F) hs
  have hsp : Cv.spent F o f s = Cv.mk (Cv.cd o f (Cv.cnt F s)) f (Cv.cnt F s) := rfl
  rw [hsp]
  clear hsp
  generalize Cv.cnt F s = t at *
  have FC := Lib.hid (fun wx => refCounted_any (d : Int) o f t wx ho (by omega) hto)
  have hcd : Cv.cd o f t ≤ 7 := by unfold Cv.cd; split <;> omega
  generalize Cv.cd o f t = q at *
  have FM := Lib.hid (fun wx => refMarked_any (d : Int) q f t wx hcd (by omega) hto)
  generalize Cv.mk q f t = x at *
  obtain ⟨s1, s2, s3⟩ := s
  obtain ⟨t1, t2, t3⟩ := t
  obtain ⟨x1, x2, x3⟩ := x
  simp only [Stp.agg] at *
  clear hs hto hcd ho hd
  have HB0 := Lib.hid (bxs3 w (.cells #[.int .i64 (d : Int), .int .i64 (o : Int)] 23) (.cells #[.int .u32 s1, .int .u32 s2, .int .u32 s3] 30) (.cells #[.int .u32 0, .int .u32 0, .int .u32 0] 30))
  go_enter Tryd.func20, Tryd.ntmps20
  go_wp2_with fail
  refine (FI.out _).mono ?_
  rintro e w1 ⟨rfl, hb1⟩
  have HB1 := Lib.hid (HB0.out.next hb1)
  clear hb1 HB0
  have c0_0 : w1.cell? ⟨w.heap.size, 0, none⟩ = some (.int .i64 (d : Int)) := cell_of_row _ _ _ _ _ (0, 0) HB1.out.r0
  have c0_1 : w1.cell? ⟨w.heap.size, 1, none⟩ = some (.int .i64 (o : Int)) := cell_of_row _ _ _ _ _ (0, 0) HB1.out.r0
  have c1_0 : w1.cell? ⟨w.heap.size + 1, 0, none⟩ = some (.int .u32 s1) := cell_of_row _ _ _ _ _ (0, 0) HB1.out.r1
  have c1_1 : w1.cell? ⟨w.heap.size + 1, 1, none⟩ = some (.int .u32 s2) := cell_of_row _ _ _ _ _ (0, 0) HB1.out.r1
  have c1_2 : w1.cell? ⟨w.heap.size + 1, 2, none⟩ = some (.int .u32 s3) := cell_of_row _ _ _ _ _ (0, 0) HB1.out.r1
  go_wp2_with fail
  refine (FP.out _).mono ?_
  rintro e w2 ⟨rfl, hb2⟩
  have HB2 := Lib.hid (HB1.out.next hb2)
  clear c0_0 c0_1 c1_0 c1_1 c1_2 hb2 HB1
  have c0_0 : w2.cell? ⟨w.heap.size, 0, none⟩ = some (.int .i64 (d : Int)) := cell_of_row _ _ _ _ _ (0, 0) HB2.out.r0
  have c0_1 : w2.cell? ⟨w.heap.size, 1, none⟩ = some (.int .i64 (o : Int)) := cell_of_row _ _ _ _ _ (0, 0) HB2.out.r0
  have c1_0 : w2.cell? ⟨w.heap.size + 1, 0, none⟩ = some (.int .u32 s1) := cell_of_row _ _ _ _ _ (0, 0) HB2.out.r1
  have c1_1 : w2.cell? ⟨w.heap.size + 1, 1, none⟩ = some (.int .u32 s2) := cell_of_row _ _ _ _ _ (0, 0) HB2.out.r1
  have c1_2 : w2.cell? ⟨w.heap.size + 1, 2, none⟩ = some (.int .u32 s3) := cell_of_row _ _ _ _ _ (0, 0) HB2.out.r1
  go_wp2_with (with_reducible show wpList _ _ _ (Oper.mk _ (.store 30 _ _) _ _ _ _ :: _) _ _; refine Hid.out ?_)
  refine Lib.hid ?_
  refine wpList_put rfl 30 _ _ rfl (w.heap.size + 1) #[.int .u32 t1, .int .u32 t2, .int .u32 t3] _ 30 rfl rfl HB2.out.r1 (by kernel_rfl) rfl (by kernel_rfl) ?_
  intro w3 hr3 hg3
  have HB3 : Hid (Bx w [(w.heap.size, .cells #[.int .i64 (d : Int), .int .i64 (o : Int)] 23 (0, 0)), (w.heap.size + 1, .cells #[.int .u32 t1, .int .u32 t2, .int .u32 t3] 30 (0, 0)), (w.heap.size + 2, .cells #[.int .u32 0, .int .u32 0, .int .u32 0] 30 (0, 0))] w3) := Lib.hid (HB2.out.put (by omega) hg3.out hr3.out (by simp only [List.mem_cons, List.not_mem_nil, or_false]; rintro p (rfl | rfl | rfl) <;> simp <;> omega))
  clear c0_0 c0_1 c1_0 c1_1 c1_2 hr3 hg3 HB2
  have c0_0 : w3.cell? ⟨w.heap.size, 0, none⟩ = some (.int .i64 (d : Int)) := cell_of_row _ _ _ _ _ (0, 0) HB3.out.r0
  have c0_1 : w3.cell? ⟨w.heap.size, 1, none⟩ = some (.int .i64 (o : Int)) := cell_of_row _ _ _ _ _ (0, 0) HB3.out.r0
  have c1_0 : w3.cell? ⟨w.heap.size + 1, 0, none⟩ = some (.int .u32 t1) := cell_of_row _ _ _ _ _ (0, 0) HB3.out.r1
  have c1_1 : w3.cell? ⟨w.heap.size + 1, 1, none⟩ = some (.int .u32 t2) := cell_of_row _ _ _ _ _ (0, 0) HB3.out.r1
  have c1_2 : w3.cell? ⟨w.heap.size + 1, 2, none⟩ = some (.int .u32 t3) := cell_of_row _ _ _ _ _ (0, 0) HB3.out.r1
  go_wp2_with fail
  refine (FC.out _).mono ?_
  rintro e w4 ⟨rfl, hb4⟩
  have HB4 := Lib.hid (HB3.out.next hb4)
  clear c0_0 c0_1 c1_0 c1_1 c1_2 hb4 HB3
  have c0_0 : w4.cell? ⟨w.heap.size, 0, none⟩ = some (.int .i64 (d : Int)) := cell_of_row _ _ _ _ _ (0, 0) HB4.out.r0
  have c0_1 : w4.cell? ⟨w.heap.size, 1, none⟩ = some (.int .i64 (o : Int)) := cell_of_row _ _ _ _ _ (0, 0) HB4.out.r0
  have c1_0 : w4.cell? ⟨w.heap.size + 1, 0, none⟩ = some (.int .u32 t1) := cell_of_row _ _ _ _ _ (0, 0) HB4.out.r1
  have c1_1 : w4.cell? ⟨w.heap.size + 1, 1, none⟩ = some (.int .u32 t2) := cell_of_row _ _ _ _ _ (0, 0) HB4.out.r1
  have c1_2 : w4.cell? ⟨w.heap.size + 1, 2, none⟩ = some (.int .u32 t3) := cell_of_row _ _ _ _ _ (0, 0) HB4.out.r1
  go_wp2_with (with_reducible show wpList _ _ _ (Oper.mk _ (.store 3 _ _) _ _ _ _ :: _) _ _; refine Hid.out ?_)
  refine Lib.hid ?_
  refine wpList_putCell rfl 3 _ _ rfl (w.heap.size) 1 (.int .i64 (q : Int)) _ _ 23 rfl rfl HB4.out.r0 (by kernel_rfl) (by simp) rfl rfl rfl ?_
  intro w5 hr5 hg5
  have HB5 : Hid (Bx w [(w.heap.size, .cells #[.int .i64 (d : Int), .int .i64 (q : Int)] 23 (0, 0)), (w.heap.size + 1, .cells #[.int .u32 t1, .int .u32 t2, .int .u32 t3] 30 (0, 0)), (w.heap.size + 2, .cells #[.int .u32 0, .int .u32 0, .int .u32 0] 30 (0, 0))] w5) := Lib.hid (HB4.out.put (by omega) hg5.out hr5.out (by simp only [List.mem_cons, List.not_mem_nil, or_false]; rintro p (rfl | rfl | rfl) <;> simp <;> omega))
  clear c0_0 c0_1 c1_0 c1_1 c1_2 hr5 hg5 HB4
  have c0_0 : w5.cell? ⟨w.heap.size, 0, none⟩ = some (.int .i64 (d : Int)) := cell_of_row _ _ _ _ _ (0, 0) HB5.out.r0
  have c0_1 : w5.cell? ⟨w.heap.size, 1, none⟩ = some (.int .i64 (q : Int)) := cell_of_row _ _ _ _ _ (0, 0) HB5.out.r0
  have c1_0 : w5.cell? ⟨w.heap.size + 1, 0, none⟩ = some (.int .u32 t1) := cell_of_row _ _ _ _ _ (0, 0) HB5.out.r1
  have c1_1 : w5.cell? ⟨w.heap.size + 1, 1, none⟩ = some (.int .u32 t2) := cell_of_row _ _ _ _ _ (0, 0) HB5.out.r1
  have c1_2 : w5.cell? ⟨w.heap.size + 1, 2, none⟩ = some (.int .u32 t3) := cell_of_row _ _ _ _ _ (0, 0) HB5.out.r1
  go_wp2_with fail
  refine (FM.out _).mono ?_
  rintro e w6 ⟨rfl, hb6⟩
  have HB6 := Lib.hid (HB5.out.next hb6)
  clear c0_0 c0_1 c1_0 c1_1 c1_2 hb6 HB5
  have c0_0 : w6.cell? ⟨w.heap.size, 0, none⟩ = some (.int .i64 (d : Int)) := cell_of_row _ _ _ _ _ (0, 0) HB6.out.r0
  have c0_1 : w6.cell? ⟨w.heap.size, 1, none⟩ = some (.int .i64 (q : Int)) := cell_of_row _ _ _ _ _ (0, 0) HB6.out.r0
  have c1_0 : w6.cell? ⟨w.heap.size + 1, 0, none⟩ = some (.int .u32 t1) := cell_of_row _ _ _ _ _ (0, 0) HB6.out.r1
  have c1_1 : w6.cell? ⟨w.heap.size + 1, 1, none⟩ = some (.int .u32 t2) := cell_of_row _ _ _ _ _ (0, 0) HB6.out.r1
  have c1_2 : w6.cell? ⟨w.heap.size + 1, 2, none⟩ = some (.int .u32 t3) := cell_of_row _ _ _ _ _ (0, 0) HB6.out.r1
  go_wp2_with (with_reducible show wpList _ _ _ (Oper.mk _ (.store 30 _ _) _ _ _ _ :: _) _ _; refine Hid.out ?_)
  refine Lib.hid ?_
  refine wpList_put rfl 30 _ _ rfl (w.heap.size + 2) #[.int .u32 x1, .int .u32 x2, .int .u32 x3] _ 30 rfl rfl HB6.out.r2 (by kernel_rfl) rfl (by kernel_rfl) ?_
  intro w7 hr7 hg7
  have HB7 : Hid (Bx w [(w.heap.size, .cells #[.int .i64 (d : Int), .int .i64 (q : Int)] 23 (0, 0)), (w.heap.size + 1, .cells #[.int .u32 t1, .int .u32 t2, .int .u32 t3] 30 (0, 0)), (w.heap.size + 2, .cells #[.int .u32 x1, .int .u32 x2, .int .u32 x3] 30 (0, 0))] w7) := Lib.hid (HB6.out.put (by omega) hg7.out hr7.out (by simp only [List.mem_cons, List.not_mem_nil, or_false]; rintro p (rfl | rfl | rfl) <;> simp <;> omega))
  clear c0_0 c0_1 c1_0 c1_1 c1_2 hr7 hg7 HB6
  go_wp2_with fail
  exact bodyPost_ret (results_cell_row Tryd.results20 _ _ _ _ _ (0, 0) _ rfl (HB7.out.r2) Tryd.underlying30 rfl (by kernel_rfl)) rfl (⟨rfl, HB7.out.below⟩)
set_option maxHeartbeats 4000000 in
theorem refLook_any (F f d o : Nat) (s : Stp) (w : World) (hF1 : 2 ≤ F) (hF : F ≤ 32) (hf : f < F) (hd : d ≤ 2) (ho : o ≤ 7) (hs : s.ok) :
    Calls Tryd.prog 26 #[.int .i64 (F : Int), .agg #[.int .i64 (d : Int), .int .i64 (o : Int)], .int .i64 (f : Int), (Cv.cnt F s).agg] w fun ee w' => ee = .returned (.agg #[.bool (Cv.look F o f s).up, .bool (Cv.look F o f s).dn, .bool (Cv.look F o f s).car, .bool (Cv.look F o f s).ab, .bool (Cv.look F o f s).be, .int .i64 ((Cv.look F o f s).nr : Int)]) ∧ Below w.heap.size w w' := by
  have hf32 : f < 32 := by omega
  have hto := Cv.cnt_ok (F := F) hs
  have FS := Lib.hid (fun wx => refSpentGood_any F f d o (Cv.cnt F s) wx hF1 hF hf hd ho hto)
  rw [Cv.spent_cnt hs] at FS
  have hlv : Cv.live F o f s = Cv.minus (Cv.cnt F s) (Cv.spent F o f s) := rfl
  have hxo : (Cv.spent F o f s).ok := Cv.mk_ok hto
  have hlo : (Cv.live F o f s).ok := Cv.minus_ok hto
  have FA := Lib.hid (fun wx => refAboveS_any f (Cv.cnt F s) wx hf32 hto)
  have FB := Lib.hid (fun wx => refBelowS_any f (Cv.cnt F s) wx hf32 hto)
  have hab : (abvR (Cv.cnt F s).bits f).1 = (Cv.look F o f s).ab := by rw [Cv.abv_some, Cv.upF_live hs hf32]; rfl
  have hbe : (belR (Cv.cnt F s).bits f).1 = (Cv.look F o f s).be := by rw [Cv.bel_some, Cv.dnF_live hs hf32]; rfl
  have hnr : Cv.nearR (abvR (Cv.cnt F s).bits f) (belR (Cv.cnt F s).bits f) = ((Cv.look F o f s).nr : Int) := by
    rw [Cv.near_R]
    show ((Cv.near (Cv.cnt F s).bits f : Nat) : Int) = ((Cv.near (Cv.live F o f s).bits f : Nat) : Int)
    unfold Cv.near
    rw [Cv.upF_live (o := o) hs hf32, Cv.dnF_live (o := o) hs hf32]
  have FM := Lib.hid (fun wx => refMinus_any (Cv.cnt F s).h (Cv.spent F o f s).h wx hto.2 hxo.2)
  have e1 := u32_andNot_nat (Cv.cnt F s).car (Cv.spent F o f s).car hto.1 hxo.1
  have hl1 : (Cv.cnt F s).car &&& (4294967295 - (Cv.spent F o f s).car) = (Cv.live F o f s).car := rfl
  have hl2 : Cs.minus (Cv.cnt F s).h (Cv.spent F o f s).h = (Cv.live F o f s).h := rfl
  rw [hl1] at e1
  rw [hl2] at FM
  have FU := Lib.hid (fun wx => refHas_any (Cv.live F o f s).h (f : Int) 1 wx hlo.2)
  have FD := Lib.hid (fun wx => refHas_any (Cv.live F o f s).h (f : Int) 2 wx hlo.2)
  rw [Cs.has_up hlo.2 hf32] at FU
  rw [Cs.has_dn hlo.2 hf32] at FD
  have hbt := shr_bit (k := f) hlo.1
  have hu : (Cv.look F o f s).up = (Cv.live F o f s).h.up.testBit f := rfl
  have hdn : (Cv.look F o f s).dn = (Cv.live F o f s).h.dn.testBit f := rfl
  have hc : (Cv.look F o f s).car = (Cv.live F o f s).car.testBit f := rfl
  rw [← hu] at FU
  rw [← hdn] at FD
  rw [← hc] at hbt
  have hm : min (IntKind.u64.wrap (f : Int)).toNat 32 = f := by rw [IntKind.wrap_u64]; omega
  clear hlv hl1 hl2 hu hdn hc hlo hxo hto hs
  generalize Cv.look F o f s = x at *
  obtain ⟨xu, xd, xc, xa, xb, xn⟩ := x
  simp only at FU FD hbt hab hbe hnr ⊢
  obtain ⟨bv, hbv⟩ : ∃ bv : Int, (if xc = true then (1 : Int) else 0) = bv := ⟨_, rfl⟩
  rw [hbv] at hbt
  generalize abvR (Cv.cnt F s).bits f = va at *
  generalize belR (Cv.cnt F s).bits f = vb at *
  obtain ⟨a, n⟩ := va
  obtain ⟨b, m⟩ := vb
  simp only at hab hbe FA FB
  subst hab hbe
  generalize Cv.live F o f s = lv at *
  generalize Cv.spent F o f s = sp at *
  generalize Cv.cnt F s = t at *
  obtain ⟨t1, t2, t3⟩ := t
  obtain ⟨p1, p2, p3⟩ := sp
  obtain ⟨l1, l2, l3⟩ := lv
  simp only [Stp.agg, Cs.agg] at *
  have HBV := Lib.hid hbv
  clear hbv
  have HBT := Lib.hid hbt
  have HE1 := Lib.hid e1
  have HNR := Lib.hid hnr
  clear hbt e1 hnr
  have HB0 := Lib.hid (bxs3 w (.cells #[.int .i64 (d : Int), .int .i64 (o : Int)] 23) (.cells #[.int .u32 t1, .int .u32 t2, .int .u32 t3] 30) (.cells #[.bool false, .bool false, .bool false, .bool false, .bool false, .int .i64 0] 59))
  go_enter Tryd.func26, Tryd.ntmps26
  go_wp2_with fail
  refine (FS.out _).mono ?_
  rintro e w1 ⟨rfl, hb1⟩
  have HB1 := Lib.hid (HB0.out.next hb1)
  clear hb1 HB0
  have c0_0 : w1.cell? ⟨w.heap.size, 0, none⟩ = some (.int .i64 (d : Int)) := cell_of_row _ _ _ _ _ (0, 0) HB1.out.r0
  have c0_1 : w1.cell? ⟨w.heap.size, 1, none⟩ = some (.int .i64 (o : Int)) := cell_of_row _ _ _ _ _ (0, 0) HB1.out.r0
  have c1_0 : w1.cell? ⟨w.heap.size + 1, 0, none⟩ = some (.int .u32 t1) := cell_of_row _ _ _ _ _ (0, 0) HB1.out.r1
  have c1_1 : w1.cell? ⟨w.heap.size + 1, 1, none⟩ = some (.int .u32 t2) := cell_of_row _ _ _ _ _ (0, 0) HB1.out.r1
  have c1_2 : w1.cell? ⟨w.heap.size + 1, 2, none⟩ = some (.int .u32 t3) := cell_of_row _ _ _ _ _ (0, 0) HB1.out.r1
  go_wp2_with (with_reducible show wpList _ _ _ (Oper.mk _ (.store 30 _ _) _ _ _ _ :: _) _ _; refine Hid.out ?_)
  refine Lib.hid ?_
  have l2_0 : w.heap.size < w1.heap.size := (Array.getElem?_eq_some_iff.1 HB1.out.r0).1
  have l2_1 : w.heap.size + 1 < w1.heap.size := (Array.getElem?_eq_some_iff.1 HB1.out.r1).1
  have l2_2 : w.heap.size + 2 < w1.heap.size := (Array.getElem?_eq_some_iff.1 HB1.out.r2).1
  have lw2 : w.heap.size ≤ w1.heap.size := HB1.out.below.size
  refine wpList_put rfl 30 _ _ rfl w1.heap.size #[.int .u32 p1, .int .u32 p2, .int .u32 p3] _ 30 rfl rfl (heap_alloc_new w1 _) (by kernel_rfl) rfl (by kernel_rfl) ?_
  intro w2 hr2 hg2
  have HB2 : Hid (Bx w [(w1.heap.size, .cells #[.int .u32 p1, .int .u32 p2, .int .u32 p3] 30 (0, 0)), (w.heap.size, .cells #[.int .i64 (d : Int), .int .i64 (o : Int)] 23 (0, 0)), (w.heap.size + 1, .cells #[.int .u32 t1, .int .u32 t2, .int .u32 t3] 30 (0, 0)), (w.heap.size + 2, .cells #[.bool false, .bool false, .bool false, .bool false, .bool false, .int .i64 0] 59 (0, 0))] w2) := Lib.hid ((HB1.out.make (heap_alloc_new w1 (.cells #[.int .u32 0, .int .u32 0, .int .u32 0] 30)) ((Below.refl w1.heap.size w1).alloc (Nat.le_refl _) _)).put HB1.out.below.size hg2.out hr2.out (by simp only [List.mem_cons, List.not_mem_nil, or_false]; rintro p (rfl | rfl | rfl | rfl) <;> simp <;> omega))
  clear c0_0 c0_1 c1_0 c1_1 c1_2 hr2 hg2 HB1
  generalize w1.heap.size = gx at *
  have c0_0 : w2.cell? ⟨gx, 0, none⟩ = some (.int .u32 p1) := cell_of_row _ _ _ _ _ (0, 0) HB2.out.r0
  have c0_1 : w2.cell? ⟨gx, 1, none⟩ = some (.int .u32 p2) := cell_of_row _ _ _ _ _ (0, 0) HB2.out.r0
  have c0_2 : w2.cell? ⟨gx, 2, none⟩ = some (.int .u32 p3) := cell_of_row _ _ _ _ _ (0, 0) HB2.out.r0
  have c1_0 : w2.cell? ⟨w.heap.size, 0, none⟩ = some (.int .i64 (d : Int)) := cell_of_row _ _ _ _ _ (0, 0) HB2.out.r1
  have c1_1 : w2.cell? ⟨w.heap.size, 1, none⟩ = some (.int .i64 (o : Int)) := cell_of_row _ _ _ _ _ (0, 0) HB2.out.r1
  go_wp2_with fail
  have q0 : gx < w2.heap.size := (Array.getElem?_eq_some_iff.1 HB2.out.r0).1
  have q1 : w.heap.size < w2.heap.size := (Array.getElem?_eq_some_iff.1 HB2.out.r1).1
  have q2 : w.heap.size + 1 < w2.heap.size := (Array.getElem?_eq_some_iff.1 HB2.out.r2).1
  have q3 : w.heap.size + 2 < w2.heap.size := (Array.getElem?_eq_some_iff.1 HB2.out.r3).1
  refine Ghost.ghost (fun γ L wx => Decls (w2).heap.size (w2) [(⟨11, 12, 30, #[.int .u32 0, .int .u32 0, .int .u32 0], #[.int .u32 l1, .int .u32 l2, .int .u32 l3]⟩ : Decl)] γ L wx) (by kernel_rfl) (by kernel_rfl) (fun γ => Decls.start _ γ (Below.refl _ _).drew (Nat.le_refl _)) ?_
  apply Ghost.walk_const (fun γ => by rfl)
  · intro γ L wx h1 h2 hx K hK
    have HXx := HB2.out.next hx.below
    have z0_0 : wx.cell? ⟨gx, 0, none⟩ = some (.int .u32 p1) := cell_of_row _ _ _ _ _ (0, 0) HXx.r0
    have z0_1 : wx.cell? ⟨gx, 1, none⟩ = some (.int .u32 p2) := cell_of_row _ _ _ _ _ (0, 0) HXx.r0
    have z0_2 : wx.cell? ⟨gx, 2, none⟩ = some (.int .u32 p3) := cell_of_row _ _ _ _ _ (0, 0) HXx.r0
    have z2_0 : wx.cell? ⟨w.heap.size + 1, 0, none⟩ = some (.int .u32 t1) := cell_of_row _ _ _ _ _ (0, 0) HXx.r2
    have z2_1 : wx.cell? ⟨w.heap.size + 1, 1, none⟩ = some (.int .u32 t2) := cell_of_row _ _ _ _ _ (0, 0) HXx.r2
    have z2_2 : wx.cell? ⟨w.heap.size + 1, 2, none⟩ = some (.int .u32 t3) := cell_of_row _ _ _ _ _ (0, 0) HXx.r2
    have e1 := HE1.out
    have HK2 := Lib.hid hK
    have HX := Lib.hid hx
    clear hK h1 h2 hx
    go_simp
    first
      | (go_at_call 16; refine (FM.out _).mono ?_; rintro e x1 ⟨rfl, hb⟩; exact HK2.out _ (HX.out.quiet 0 (by rfl) hb))
      | exact HK2.out _ (HX.out.quiet 0 (by rfl) (Below.refl _ _))
  simp only [Act.put, List.setIfInBounds_toArray, List.set_cons_succ, List.set_cons_zero]
  apply Ghost.walk_const (fun γ => by rfl)
  · intro γ L wx h1 h2 hx K hK
    have HXx := HB2.out.next hx.below
    have z0_0 : wx.cell? ⟨gx, 0, none⟩ = some (.int .u32 p1) := cell_of_row _ _ _ _ _ (0, 0) HXx.r0
    have z0_1 : wx.cell? ⟨gx, 1, none⟩ = some (.int .u32 p2) := cell_of_row _ _ _ _ _ (0, 0) HXx.r0
    have z0_2 : wx.cell? ⟨gx, 2, none⟩ = some (.int .u32 p3) := cell_of_row _ _ _ _ _ (0, 0) HXx.r0
    have z2_0 : wx.cell? ⟨w.heap.size + 1, 0, none⟩ = some (.int .u32 t1) := cell_of_row _ _ _ _ _ (0, 0) HXx.r2
    have z2_1 : wx.cell? ⟨w.heap.size + 1, 1, none⟩ = some (.int .u32 t2) := cell_of_row _ _ _ _ _ (0, 0) HXx.r2
    have z2_2 : wx.cell? ⟨w.heap.size + 1, 2, none⟩ = some (.int .u32 t3) := cell_of_row _ _ _ _ _ (0, 0) HXx.r2
    have e1 := HE1.out
    have HK2 := Lib.hid hK
    have HX := Lib.hid hx
    clear hK h1 h2 hx
    go_simp
    first
      | (go_at_call 16; refine (FM.out _).mono ?_; rintro e x1 ⟨rfl, hb⟩; exact HK2.out _ (HX.out.quiet 0 (by rfl) hb))
      | exact HK2.out _ (HX.out.quiet 0 (by rfl) (Below.refl _ _))
  simp only [Act.put, List.setIfInBounds_toArray, List.set_cons_succ, List.set_cons_zero]
  apply Ghost.walk_const (fun γ => by rfl)
  · intro γ L wx h1 h2 hx K hK
    have HXx := HB2.out.next hx.below
    have z0_0 : wx.cell? ⟨gx, 0, none⟩ = some (.int .u32 p1) := cell_of_row _ _ _ _ _ (0, 0) HXx.r0
    have z0_1 : wx.cell? ⟨gx, 1, none⟩ = some (.int .u32 p2) := cell_of_row _ _ _ _ _ (0, 0) HXx.r0
    have z0_2 : wx.cell? ⟨gx, 2, none⟩ = some (.int .u32 p3) := cell_of_row _ _ _ _ _ (0, 0) HXx.r0
    have z2_0 : wx.cell? ⟨w.heap.size + 1, 0, none⟩ = some (.int .u32 t1) := cell_of_row _ _ _ _ _ (0, 0) HXx.r2
    have z2_1 : wx.cell? ⟨w.heap.size + 1, 1, none⟩ = some (.int .u32 t2) := cell_of_row _ _ _ _ _ (0, 0) HXx.r2
    have z2_2 : wx.cell? ⟨w.heap.size + 1, 2, none⟩ = some (.int .u32 t3) := cell_of_row _ _ _ _ _ (0, 0) HXx.r2
    have e1 := HE1.out
    have HK2 := Lib.hid hK
    have HX := Lib.hid hx
    clear hK h1 h2 hx
    go_simp
    first
      | (go_at_call 16; refine (FM.out _).mono ?_; rintro e x1 ⟨rfl, hb⟩; exact HK2.out _ (HX.out.quiet 0 (by rfl) hb))
      | exact HK2.out _ (HX.out.quiet 0 (by rfl) (Below.refl _ _))
  simp only [Act.put, List.setIfInBounds_toArray, List.set_cons_succ, List.set_cons_zero]
  apply Ghost.walk_const (fun γ => by rfl)
  · intro γ L wx h1 h2 hx K hK
    have HXx := HB2.out.next hx.below
    have z0_0 : wx.cell? ⟨gx, 0, none⟩ = some (.int .u32 p1) := cell_of_row _ _ _ _ _ (0, 0) HXx.r0
    have z0_1 : wx.cell? ⟨gx, 1, none⟩ = some (.int .u32 p2) := cell_of_row _ _ _ _ _ (0, 0) HXx.r0
    have z0_2 : wx.cell? ⟨gx, 2, none⟩ = some (.int .u32 p3) := cell_of_row _ _ _ _ _ (0, 0) HXx.r0
    have z2_0 : wx.cell? ⟨w.heap.size + 1, 0, none⟩ = some (.int .u32 t1) := cell_of_row _ _ _ _ _ (0, 0) HXx.r2
    have z2_1 : wx.cell? ⟨w.heap.size + 1, 1, none⟩ = some (.int .u32 t2) := cell_of_row _ _ _ _ _ (0, 0) HXx.r2
    have z2_2 : wx.cell? ⟨w.heap.size + 1, 2, none⟩ = some (.int .u32 t3) := cell_of_row _ _ _ _ _ (0, 0) HXx.r2
    have e1 := HE1.out
    have HK2 := Lib.hid hK
    have HX := Lib.hid hx
    clear hK h1 h2 hx
    go_simp
    first
      | (go_at_call 16; refine (FM.out _).mono ?_; rintro e x1 ⟨rfl, hb⟩; exact HK2.out _ (HX.out.quiet 0 (by rfl) hb))
      | exact HK2.out _ (HX.out.quiet 0 (by rfl) (Below.refl _ _))
  simp only [Act.put, List.setIfInBounds_toArray, List.set_cons_succ, List.set_cons_zero]
  apply Ghost.walk_const (fun γ => by rfl)
  · intro γ L wx h1 h2 hx K hK
    have HXx := HB2.out.next hx.below
    have z0_0 : wx.cell? ⟨gx, 0, none⟩ = some (.int .u32 p1) := cell_of_row _ _ _ _ _ (0, 0) HXx.r0
    have z0_1 : wx.cell? ⟨gx, 1, none⟩ = some (.int .u32 p2) := cell_of_row _ _ _ _ _ (0, 0) HXx.r0
    have z0_2 : wx.cell? ⟨gx, 2, none⟩ = some (.int .u32 p3) := cell_of_row _ _ _ _ _ (0, 0) HXx.r0
    have z2_0 : wx.cell? ⟨w.heap.size + 1, 0, none⟩ = some (.int .u32 t1) := cell_of_row _ _ _ _ _ (0, 0) HXx.r2
    have z2_1 : wx.cell? ⟨w.heap.size + 1, 1, none⟩ = some (.int .u32 t2) := cell_of_row _ _ _ _ _ (0, 0) HXx.r2
    have z2_2 : wx.cell? ⟨w.heap.size + 1, 2, none⟩ = some (.int .u32 t3) := cell_of_row _ _ _ _ _ (0, 0) HXx.r2
    have e1 := HE1.out
    have HK2 := Lib.hid hK
    have HX := Lib.hid hx
    clear hK h1 h2 hx
    go_simp
    first
      | (go_at_call 16; refine (FM.out _).mono ?_; rintro e x1 ⟨rfl, hb⟩; exact HK2.out _ (HX.out.quiet 0 (by rfl) hb))
      | exact HK2.out _ (HX.out.quiet 0 (by rfl) (Below.refl _ _))
  simp only [Act.put, List.setIfInBounds_toArray, List.set_cons_succ, List.set_cons_zero]
  apply Ghost.walk_const (fun γ => by rfl)
  · intro γ L wx h1 h2 hx K hK
    have HXx := HB2.out.next hx.below
    have z0_0 : wx.cell? ⟨gx, 0, none⟩ = some (.int .u32 p1) := cell_of_row _ _ _ _ _ (0, 0) HXx.r0
    have z0_1 : wx.cell? ⟨gx, 1, none⟩ = some (.int .u32 p2) := cell_of_row _ _ _ _ _ (0, 0) HXx.r0
    have z0_2 : wx.cell? ⟨gx, 2, none⟩ = some (.int .u32 p3) := cell_of_row _ _ _ _ _ (0, 0) HXx.r0
    have z2_0 : wx.cell? ⟨w.heap.size + 1, 0, none⟩ = some (.int .u32 t1) := cell_of_row _ _ _ _ _ (0, 0) HXx.r2
    have z2_1 : wx.cell? ⟨w.heap.size + 1, 1, none⟩ = some (.int .u32 t2) := cell_of_row _ _ _ _ _ (0, 0) HXx.r2
    have z2_2 : wx.cell? ⟨w.heap.size + 1, 2, none⟩ = some (.int .u32 t3) := cell_of_row _ _ _ _ _ (0, 0) HXx.r2
    have e1 := HE1.out
    have HK2 := Lib.hid hK
    have HX := Lib.hid hx
    clear hK h1 h2 hx
    go_simp
    first
      | (go_at_call 16; refine (FM.out _).mono ?_; rintro e x1 ⟨rfl, hb⟩; exact HK2.out _ (HX.out.quiet 0 (by rfl) hb))
      | exact HK2.out _ (HX.out.quiet 0 (by rfl) (Below.refl _ _))
  simp only [Act.put, List.setIfInBounds_toArray, List.set_cons_succ, List.set_cons_zero]
  apply Ghost.walk_const (fun γ => by rfl)
  · intro γ L wx h1 h2 hx K hK
    have HXx := HB2.out.next hx.below
    have z0_0 : wx.cell? ⟨gx, 0, none⟩ = some (.int .u32 p1) := cell_of_row _ _ _ _ _ (0, 0) HXx.r0
    have z0_1 : wx.cell? ⟨gx, 1, none⟩ = some (.int .u32 p2) := cell_of_row _ _ _ _ _ (0, 0) HXx.r0
    have z0_2 : wx.cell? ⟨gx, 2, none⟩ = some (.int .u32 p3) := cell_of_row _ _ _ _ _ (0, 0) HXx.r0
    have z2_0 : wx.cell? ⟨w.heap.size + 1, 0, none⟩ = some (.int .u32 t1) := cell_of_row _ _ _ _ _ (0, 0) HXx.r2
    have z2_1 : wx.cell? ⟨w.heap.size + 1, 1, none⟩ = some (.int .u32 t2) := cell_of_row _ _ _ _ _ (0, 0) HXx.r2
    have z2_2 : wx.cell? ⟨w.heap.size + 1, 2, none⟩ = some (.int .u32 t3) := cell_of_row _ _ _ _ _ (0, 0) HXx.r2
    have e1 := HE1.out
    have HK2 := Lib.hid hK
    have HX := Lib.hid hx
    clear hK h1 h2 hx
    go_simp
    first
      | (go_at_call 16; refine (FM.out _).mono ?_; rintro e x1 ⟨rfl, hb⟩; exact HK2.out _ (HX.out.quiet 0 (by rfl) hb))
      | exact HK2.out _ (HX.out.quiet 0 (by rfl) (Below.refl _ _))
  simp only [Act.put, List.setIfInBounds_toArray, List.set_cons_succ, List.set_cons_zero]
  apply Ghost.walk_const (fun γ => by rfl)
  · intro γ L wx h1 h2 hx K hK
    have HXx := HB2.out.next hx.below
    have z0_0 : wx.cell? ⟨gx, 0, none⟩ = some (.int .u32 p1) := cell_of_row _ _ _ _ _ (0, 0) HXx.r0
    have z0_1 : wx.cell? ⟨gx, 1, none⟩ = some (.int .u32 p2) := cell_of_row _ _ _ _ _ (0, 0) HXx.r0
    have z0_2 : wx.cell? ⟨gx, 2, none⟩ = some (.int .u32 p3) := cell_of_row _ _ _ _ _ (0, 0) HXx.r0
    have z2_0 : wx.cell? ⟨w.heap.size + 1, 0, none⟩ = some (.int .u32 t1) := cell_of_row _ _ _ _ _ (0, 0) HXx.r2
    have z2_1 : wx.cell? ⟨w.heap.size + 1, 1, none⟩ = some (.int .u32 t2) := cell_of_row _ _ _ _ _ (0, 0) HXx.r2
    have z2_2 : wx.cell? ⟨w.heap.size + 1, 2, none⟩ = some (.int .u32 t3) := cell_of_row _ _ _ _ _ (0, 0) HXx.r2
    have e1 := HE1.out
    have HK2 := Lib.hid hK
    have HX := Lib.hid hx
    clear hK h1 h2 hx
    go_simp
    first
      | (go_at_call 16; refine (FM.out _).mono ?_; rintro e x1 ⟨rfl, hb⟩; exact HK2.out _ (HX.out.quiet 0 (by rfl) hb))
      | exact HK2.out _ (HX.out.quiet 0 (by rfl) (Below.refl _ _))
  simp only [Act.put, List.setIfInBounds_toArray, List.set_cons_succ, List.set_cons_zero]
  apply Ghost.walk_const (fun γ => by rfl)
  · intro γ L wx h1 h2 hx K hK
    have HXx := HB2.out.next hx.below
    have z0_0 : wx.cell? ⟨gx, 0, none⟩ = some (.int .u32 p1) := cell_of_row _ _ _ _ _ (0, 0) HXx.r0
    have z0_1 : wx.cell? ⟨gx, 1, none⟩ = some (.int .u32 p2) := cell_of_row _ _ _ _ _ (0, 0) HXx.r0
    have z0_2 : wx.cell? ⟨gx, 2, none⟩ = some (.int .u32 p3) := cell_of_row _ _ _ _ _ (0, 0) HXx.r0
    have z2_0 : wx.cell? ⟨w.heap.size + 1, 0, none⟩ = some (.int .u32 t1) := cell_of_row _ _ _ _ _ (0, 0) HXx.r2
    have z2_1 : wx.cell? ⟨w.heap.size + 1, 1, none⟩ = some (.int .u32 t2) := cell_of_row _ _ _ _ _ (0, 0) HXx.r2
    have z2_2 : wx.cell? ⟨w.heap.size + 1, 2, none⟩ = some (.int .u32 t3) := cell_of_row _ _ _ _ _ (0, 0) HXx.r2
    have e1 := HE1.out
    have HK2 := Lib.hid hK
    have HX := Lib.hid hx
    clear hK h1 h2 hx
    go_simp
    first
      | (go_at_call 16; refine (FM.out _).mono ?_; rintro e x1 ⟨rfl, hb⟩; exact HK2.out _ (HX.out.quiet 0 (by rfl) hb))
      | exact HK2.out _ (HX.out.quiet 0 (by rfl) (Below.refl _ _))
  simp only [Act.put, List.setIfInBounds_toArray, List.set_cons_succ, List.set_cons_zero]
  apply Ghost.walk_const (fun γ => by rfl)
  · intro γ L wx h1 h2 hx K hK
    have HXx := HB2.out.next hx.below
    have z0_0 : wx.cell? ⟨gx, 0, none⟩ = some (.int .u32 p1) := cell_of_row _ _ _ _ _ (0, 0) HXx.r0
    have z0_1 : wx.cell? ⟨gx, 1, none⟩ = some (.int .u32 p2) := cell_of_row _ _ _ _ _ (0, 0) HXx.r0
    have z0_2 : wx.cell? ⟨gx, 2, none⟩ = some (.int .u32 p3) := cell_of_row _ _ _ _ _ (0, 0) HXx.r0
    have z2_0 : wx.cell? ⟨w.heap.size + 1, 0, none⟩ = some (.int .u32 t1) := cell_of_row _ _ _ _ _ (0, 0) HXx.r2
    have z2_1 : wx.cell? ⟨w.heap.size + 1, 1, none⟩ = some (.int .u32 t2) := cell_of_row _ _ _ _ _ (0, 0) HXx.r2
    have z2_2 : wx.cell? ⟨w.heap.size + 1, 2, none⟩ = some (.int .u32 t3) := cell_of_row _ _ _ _ _ (0, 0) HXx.r2
    have e1 := HE1.out
    have HK2 := Lib.hid hK
    have HX := Lib.hid hx
    clear hK h1 h2 hx
    go_simp
    first
      | (go_at_call 16; refine (FM.out _).mono ?_; rintro e x1 ⟨rfl, hb⟩; exact HK2.out _ (HX.out.quiet 0 (by rfl) hb))
      | exact HK2.out _ (HX.out.quiet 0 (by rfl) (Below.refl _ _))
  simp only [Act.put, List.setIfInBounds_toArray, List.set_cons_succ, List.set_cons_zero]
  apply Ghost.walk_const (fun γ => by rfl)
  · intro γ L wx h1 h2 hx K hK
    have HXx := HB2.out.next hx.below
    have z0_0 : wx.cell? ⟨gx, 0, none⟩ = some (.int .u32 p1) := cell_of_row _ _ _ _ _ (0, 0) HXx.r0
    have z0_1 : wx.cell? ⟨gx, 1, none⟩ = some (.int .u32 p2) := cell_of_row _ _ _ _ _ (0, 0) HXx.r0
    have z0_2 : wx.cell? ⟨gx, 2, none⟩ = some (.int .u32 p3) := cell_of_row _ _ _ _ _ (0, 0) HXx.r0
    have z2_0 : wx.cell? ⟨w.heap.size + 1, 0, none⟩ = some (.int .u32 t1) := cell_of_row _ _ _ _ _ (0, 0) HXx.r2
    have z2_1 : wx.cell? ⟨w.heap.size + 1, 1, none⟩ = some (.int .u32 t2) := cell_of_row _ _ _ _ _ (0, 0) HXx.r2
    have z2_2 : wx.cell? ⟨w.heap.size + 1, 2, none⟩ = some (.int .u32 t3) := cell_of_row _ _ _ _ _ (0, 0) HXx.r2
    have e1 := HE1.out
    have HK2 := Lib.hid hK
    have HX := Lib.hid hx
    clear hK h1 h2 hx
    go_simp
    first
      | (go_at_call 16; refine (FM.out _).mono ?_; rintro e x1 ⟨rfl, hb⟩; exact HK2.out _ (HX.out.quiet 0 (by rfl) hb))
      | exact HK2.out _ (HX.out.quiet 0 (by rfl) (Below.refl _ _))
  simp only [Act.put, List.setIfInBounds_toArray, List.set_cons_succ, List.set_cons_zero]
  refine Ghost.walk_yes (fun b => .pointer (some ⟨b, 0, none⟩)) (fun γ => by rfl) ?_ ?_
  · intro γ L wx h1 h2 hx K hK
    have HK2 := Lib.hid hK
    clear hK h2
    have hL : L (⟨11, 12, 30, #[.int .u32 0, .int .u32 0, .int .u32 0], #[.int .u32 l1, .int .u32 l2, .int .u32 l3]⟩ : Decl).al = false := h1
    clear h1
    go_simp
    exact HK2.out wx.heap.size _ (hx.alloc (⟨11, 12, 30, #[.int .u32 0, .int .u32 0, .int .u32 0], #[.int .u32 l1, .int .u32 l2, .int .u32 l3]⟩ : Decl) (decl_mem _) hL (by rfl) (decl_al _))
  simp only [Act.put, List.setIfInBounds_toArray, List.set_cons_succ, List.set_cons_zero]
  refine Ghost.walk_yes (fun _ => undef) (fun γ => by rfl) ?_ ?_
  · intro γ L wx h1 h2 hx K hK
    have hA : L (⟨11, 12, 30, #[.int .u32 0, .int .u32 0, .int .u32 0], #[.int .u32 l1, .int .u32 l2, .int .u32 l3]⟩ : Decl).al = true := h2 11 (by kernel_rfl)
    exact hx.wp_store (⟨11, 12, 30, #[.int .u32 0, .int .u32 0, .int .u32 0], #[.int .u32 l1, .int .u32 l2, .int .u32 l3]⟩ : Decl) (decl_mem _) h1 hA _ _ rfl rfl rfl (by kernel_rfl) rfl (by kernel_rfl) (hK 0 _ (hx.store (⟨11, 12, 30, #[.int .u32 0, .int .u32 0, .int .u32 0], #[.int .u32 l1, .int .u32 l2, .int .u32 l3]⟩ : Decl) (decl_mem _) hA (by rfl) (decl_st _) (decl_al _) 0))
  simp only [Act.put]
  refine Ghost.walk_nil (fun γ L w3 hall hD => ?_)
  obtain ⟨hd3, hr3, hb3⟩ := hD.done1 hall (by show 11 < 13; decide) (by show 12 < 13; decide)
  clear hall hD
  simp only [Nat.zero_add, Nat.reduceAdd] at hd3 hr3 ⊢
  generalize γ 11 = gl at *
  have HB3 := Lib.hid (HB2.out.make hr3 hb3)
  have l3_0 : gx < gl := by omega
  have l3_1 : w.heap.size < gl := by omega
  have l3_2 : w.heap.size + 1 < gl := by omega
  have l3_3 : w.heap.size + 2 < gl := by omega
  have lw3 : w.heap.size ≤ gl := by have := HB2.out.below.size; omega
  clear c0_0 c0_1 c0_2 c1_0 c1_1 hd3 hr3 hb3 HB2 q0 q1 q2 q3
  have hqc : (bv == 1) = xc := by rw [← HBV.out]; cases xc <;> rfl
  have HQ := Lib.hid hqc
  clear hqc
  go_wp2_with fail
  have q0 : gl < w3.heap.size := (Array.getElem?_eq_some_iff.1 HB3.out.r0).1
  have q1 : gx < w3.heap.size := (Array.getElem?_eq_some_iff.1 HB3.out.r1).1
  have q2 : w.heap.size < w3.heap.size := (Array.getElem?_eq_some_iff.1 HB3.out.r2).1
  have q3 : w.heap.size + 1 < w3.heap.size := (Array.getElem?_eq_some_iff.1 HB3.out.r3).1
  have q4 : w.heap.size + 2 < w3.heap.size := (Array.getElem?_eq_some_iff.1 HB3.out.r4).1
  refine Ghost.ghost (fun γ L wx => Decls (w3).heap.size (w3) [(⟨16, 17, 59, #[.bool false, .bool false, .bool false, .bool false, .bool false, .int .i64 0], #[.bool xu, .bool xd, .bool xc, .bool false, .bool false, .int .i64 0]⟩ : Decl)] γ L wx) (by kernel_rfl) (by kernel_rfl) (fun γ => Decls.start _ γ (Below.refl _ _).drew (Nat.le_refl _)) ?_
  apply Ghost.walk_const (fun γ => by rfl)
  · intro γ L wx h1 h2 hx K hK
    have HXx := HB3.out.next hx.below
    have z0_0 : wx.cell? ⟨gl, 0, none⟩ = some (.int .u32 l1) := cell_of_row _ _ _ _ _ (0, 0) HXx.r0
    have z0_1 : wx.cell? ⟨gl, 1, none⟩ = some (.int .u32 l2) := cell_of_row _ _ _ _ _ (0, 0) HXx.r0
    have z0_2 : wx.cell? ⟨gl, 2, none⟩ = some (.int .u32 l3) := cell_of_row _ _ _ _ _ (0, 0) HXx.r0
    have hbt := HBT.out
    have hqc := HQ.out
    have HK2 := Lib.hid hK
    have HX := Lib.hid hx
    clear hK h1 h2 hx
    go_simp
    first
      | (go_at_call 25; (with_reducible refine (FU.out _).mono ?_); rintro e x1 ⟨rfl, hb⟩; exact HK2.out _ (HX.out.quiet 0 (by rfl) hb))
      | (go_at_call 25; (with_reducible refine (FD.out _).mono ?_); rintro e x1 ⟨rfl, hb⟩; exact HK2.out _ (HX.out.quiet 0 (by rfl) hb))
      | exact HK2.out _ (HX.out.quiet 0 (by rfl) (Below.refl _ _))
  simp only [Act.put, List.setIfInBounds_toArray, List.set_cons_succ, List.set_cons_zero]
  apply Ghost.walk_const (fun γ => by rfl)
  · intro γ L wx h1 h2 hx K hK
    have HXx := HB3.out.next hx.below
    have z0_0 : wx.cell? ⟨gl, 0, none⟩ = some (.int .u32 l1) := cell_of_row _ _ _ _ _ (0, 0) HXx.r0
    have z0_1 : wx.cell? ⟨gl, 1, none⟩ = some (.int .u32 l2) := cell_of_row _ _ _ _ _ (0, 0) HXx.r0
    have z0_2 : wx.cell? ⟨gl, 2, none⟩ = some (.int .u32 l3) := cell_of_row _ _ _ _ _ (0, 0) HXx.r0
    have hbt := HBT.out
    have hqc := HQ.out
    have HK2 := Lib.hid hK
    have HX := Lib.hid hx
    clear hK h1 h2 hx
    go_simp
    first
      | (go_at_call 25; (with_reducible refine (FU.out _).mono ?_); rintro e x1 ⟨rfl, hb⟩; exact HK2.out _ (HX.out.quiet 0 (by rfl) hb))
      | (go_at_call 25; (with_reducible refine (FD.out _).mono ?_); rintro e x1 ⟨rfl, hb⟩; exact HK2.out _ (HX.out.quiet 0 (by rfl) hb))
      | exact HK2.out _ (HX.out.quiet 0 (by rfl) (Below.refl _ _))
  simp only [Act.put, List.setIfInBounds_toArray, List.set_cons_succ, List.set_cons_zero]
  apply Ghost.walk_const (fun γ => by rfl)
  · intro γ L wx h1 h2 hx K hK
    have HXx := HB3.out.next hx.below
    have z0_0 : wx.cell? ⟨gl, 0, none⟩ = some (.int .u32 l1) := cell_of_row _ _ _ _ _ (0, 0) HXx.r0
    have z0_1 : wx.cell? ⟨gl, 1, none⟩ = some (.int .u32 l2) := cell_of_row _ _ _ _ _ (0, 0) HXx.r0
    have z0_2 : wx.cell? ⟨gl, 2, none⟩ = some (.int .u32 l3) := cell_of_row _ _ _ _ _ (0, 0) HXx.r0
    have hbt := HBT.out
    have hqc := HQ.out
    have HK2 := Lib.hid hK
    have HX := Lib.hid hx
    clear hK h1 h2 hx
    go_simp
    first
      | (go_at_call 25; (with_reducible refine (FU.out _).mono ?_); rintro e x1 ⟨rfl, hb⟩; exact HK2.out _ (HX.out.quiet 0 (by rfl) hb))
      | (go_at_call 25; (with_reducible refine (FD.out _).mono ?_); rintro e x1 ⟨rfl, hb⟩; exact HK2.out _ (HX.out.quiet 0 (by rfl) hb))
      | exact HK2.out _ (HX.out.quiet 0 (by rfl) (Below.refl _ _))
  simp only [Act.put, List.setIfInBounds_toArray, List.set_cons_succ, List.set_cons_zero]
  apply Ghost.walk_const (fun γ => by rfl)
  · intro γ L wx h1 h2 hx K hK
    have HXx := HB3.out.next hx.below
    have z0_0 : wx.cell? ⟨gl, 0, none⟩ = some (.int .u32 l1) := cell_of_row _ _ _ _ _ (0, 0) HXx.r0
    have z0_1 : wx.cell? ⟨gl, 1, none⟩ = some (.int .u32 l2) := cell_of_row _ _ _ _ _ (0, 0) HXx.r0
    have z0_2 : wx.cell? ⟨gl, 2, none⟩ = some (.int .u32 l3) := cell_of_row _ _ _ _ _ (0, 0) HXx.r0
    have hbt := HBT.out
    have hqc := HQ.out
    have HK2 := Lib.hid hK
    have HX := Lib.hid hx
    clear hK h1 h2 hx
    go_simp
    first
      | (go_at_call 25; (with_reducible refine (FU.out _).mono ?_); rintro e x1 ⟨rfl, hb⟩; exact HK2.out _ (HX.out.quiet 0 (by rfl) hb))
      | (go_at_call 25; (with_reducible refine (FD.out _).mono ?_); rintro e x1 ⟨rfl, hb⟩; exact HK2.out _ (HX.out.quiet 0 (by rfl) hb))
      | exact HK2.out _ (HX.out.quiet 0 (by rfl) (Below.refl _ _))
  simp only [Act.put, List.setIfInBounds_toArray, List.set_cons_succ, List.set_cons_zero]
  apply Ghost.walk_const (fun γ => by rfl)
  · intro γ L wx h1 h2 hx K hK
    have HXx := HB3.out.next hx.below
    have z0_0 : wx.cell? ⟨gl, 0, none⟩ = some (.int .u32 l1) := cell_of_row _ _ _ _ _ (0, 0) HXx.r0
    have z0_1 : wx.cell? ⟨gl, 1, none⟩ = some (.int .u32 l2) := cell_of_row _ _ _ _ _ (0, 0) HXx.r0
    have z0_2 : wx.cell? ⟨gl, 2, none⟩ = some (.int .u32 l3) := cell_of_row _ _ _ _ _ (0, 0) HXx.r0
    have hbt := HBT.out
    have hqc := HQ.out
    have HK2 := Lib.hid hK
    have HX := Lib.hid hx
    clear hK h1 h2 hx
    go_simp
    first
      | (go_at_call 25; (with_reducible refine (FU.out _).mono ?_); rintro e x1 ⟨rfl, hb⟩; exact HK2.out _ (HX.out.quiet 0 (by rfl) hb))
      | (go_at_call 25; (with_reducible refine (FD.out _).mono ?_); rintro e x1 ⟨rfl, hb⟩; exact HK2.out _ (HX.out.quiet 0 (by rfl) hb))
      | exact HK2.out _ (HX.out.quiet 0 (by rfl) (Below.refl _ _))
  simp only [Act.put, List.setIfInBounds_toArray, List.set_cons_succ, List.set_cons_zero]
  apply Ghost.walk_const (fun γ => by rfl)
  · intro γ L wx h1 h2 hx K hK
    have HXx := HB3.out.next hx.below
    have z0_0 : wx.cell? ⟨gl, 0, none⟩ = some (.int .u32 l1) := cell_of_row _ _ _ _ _ (0, 0) HXx.r0
    have z0_1 : wx.cell? ⟨gl, 1, none⟩ = some (.int .u32 l2) := cell_of_row _ _ _ _ _ (0, 0) HXx.r0
    have z0_2 : wx.cell? ⟨gl, 2, none⟩ = some (.int .u32 l3) := cell_of_row _ _ _ _ _ (0, 0) HXx.r0
    have hbt := HBT.out
    have hqc := HQ.out
    have HK2 := Lib.hid hK
    have HX := Lib.hid hx
    clear hK h1 h2 hx
    go_simp
    first
      | (go_at_call 25; (with_reducible refine (FU.out _).mono ?_); rintro e x1 ⟨rfl, hb⟩; exact HK2.out _ (HX.out.quiet 0 (by rfl) hb))
      | (go_at_call 25; (with_reducible refine (FD.out _).mono ?_); rintro e x1 ⟨rfl, hb⟩; exact HK2.out _ (HX.out.quiet 0 (by rfl) hb))
      | exact HK2.out _ (HX.out.quiet 0 (by rfl) (Below.refl _ _))
  simp only [Act.put, List.setIfInBounds_toArray, List.set_cons_succ, List.set_cons_zero]
  apply Ghost.walk_const (fun γ => by rfl)
  · intro γ L wx h1 h2 hx K hK
    have HXx := HB3.out.next hx.below
    have z0_0 : wx.cell? ⟨gl, 0, none⟩ = some (.int .u32 l1) := cell_of_row _ _ _ _ _ (0, 0) HXx.r0
    have z0_1 : wx.cell? ⟨gl, 1, none⟩ = some (.int .u32 l2) := cell_of_row _ _ _ _ _ (0, 0) HXx.r0
    have z0_2 : wx.cell? ⟨gl, 2, none⟩ = some (.int .u32 l3) := cell_of_row _ _ _ _ _ (0, 0) HXx.r0
    have hbt := HBT.out
    have hqc := HQ.out
    have HK2 := Lib.hid hK
    have HX := Lib.hid hx
    clear hK h1 h2 hx
    go_simp
    first
      | (go_at_call 25; (with_reducible refine (FU.out _).mono ?_); rintro e x1 ⟨rfl, hb⟩; exact HK2.out _ (HX.out.quiet 0 (by rfl) hb))
      | (go_at_call 25; (with_reducible refine (FD.out _).mono ?_); rintro e x1 ⟨rfl, hb⟩; exact HK2.out _ (HX.out.quiet 0 (by rfl) hb))
      | exact HK2.out _ (HX.out.quiet 0 (by rfl) (Below.refl _ _))
  simp only [Act.put, List.setIfInBounds_toArray, List.set_cons_succ, List.set_cons_zero]
  apply Ghost.walk_const (fun γ => by rfl)
  · intro γ L wx h1 h2 hx K hK
    have HXx := HB3.out.next hx.below
    have z0_0 : wx.cell? ⟨gl, 0, none⟩ = some (.int .u32 l1) := cell_of_row _ _ _ _ _ (0, 0) HXx.r0
    have z0_1 : wx.cell? ⟨gl, 1, none⟩ = some (.int .u32 l2) := cell_of_row _ _ _ _ _ (0, 0) HXx.r0
    have z0_2 : wx.cell? ⟨gl, 2, none⟩ = some (.int .u32 l3) := cell_of_row _ _ _ _ _ (0, 0) HXx.r0
    have hbt := HBT.out
    have hqc := HQ.out
    have HK2 := Lib.hid hK
    have HX := Lib.hid hx
    clear hK h1 h2 hx
    go_simp
    first
      | (go_at_call 25; (with_reducible refine (FU.out _).mono ?_); rintro e x1 ⟨rfl, hb⟩; exact HK2.out _ (HX.out.quiet 0 (by rfl) hb))
      | (go_at_call 25; (with_reducible refine (FD.out _).mono ?_); rintro e x1 ⟨rfl, hb⟩; exact HK2.out _ (HX.out.quiet 0 (by rfl) hb))
      | exact HK2.out _ (HX.out.quiet 0 (by rfl) (Below.refl _ _))
  simp only [Act.put, List.setIfInBounds_toArray, List.set_cons_succ, List.set_cons_zero]
  apply Ghost.walk_const (fun γ => by rfl)
  · intro γ L wx h1 h2 hx K hK
    have HXx := HB3.out.next hx.below
    have z0_0 : wx.cell? ⟨gl, 0, none⟩ = some (.int .u32 l1) := cell_of_row _ _ _ _ _ (0, 0) HXx.r0
    have z0_1 : wx.cell? ⟨gl, 1, none⟩ = some (.int .u32 l2) := cell_of_row _ _ _ _ _ (0, 0) HXx.r0
    have z0_2 : wx.cell? ⟨gl, 2, none⟩ = some (.int .u32 l3) := cell_of_row _ _ _ _ _ (0, 0) HXx.r0
    have hbt := HBT.out
    have hqc := HQ.out
    have HK2 := Lib.hid hK
    have HX := Lib.hid hx
    clear hK h1 h2 hx
    go_simp
    first
      | (go_at_call 25; (with_reducible refine (FU.out _).mono ?_); rintro e x1 ⟨rfl, hb⟩; exact HK2.out _ (HX.out.quiet 0 (by rfl) hb))
      | (go_at_call 25; (with_reducible refine (FD.out _).mono ?_); rintro e x1 ⟨rfl, hb⟩; exact HK2.out _ (HX.out.quiet 0 (by rfl) hb))
      | exact HK2.out _ (HX.out.quiet 0 (by rfl) (Below.refl _ _))
  simp only [Act.put, List.setIfInBounds_toArray, List.set_cons_succ, List.set_cons_zero]
  apply Ghost.walk_const (fun γ => by rfl)
  · intro γ L wx h1 h2 hx K hK
    have HXx := HB3.out.next hx.below
    have z0_0 : wx.cell? ⟨gl, 0, none⟩ = some (.int .u32 l1) := cell_of_row _ _ _ _ _ (0, 0) HXx.r0
    have z0_1 : wx.cell? ⟨gl, 1, none⟩ = some (.int .u32 l2) := cell_of_row _ _ _ _ _ (0, 0) HXx.r0
    have z0_2 : wx.cell? ⟨gl, 2, none⟩ = some (.int .u32 l3) := cell_of_row _ _ _ _ _ (0, 0) HXx.r0
    have hbt := HBT.out
    have hqc := HQ.out
    have HK2 := Lib.hid hK
    have HX := Lib.hid hx
    clear hK h1 h2 hx
    go_simp
    first
      | (go_at_call 25; (with_reducible refine (FU.out _).mono ?_); rintro e x1 ⟨rfl, hb⟩; exact HK2.out _ (HX.out.quiet 0 (by rfl) hb))
      | (go_at_call 25; (with_reducible refine (FD.out _).mono ?_); rintro e x1 ⟨rfl, hb⟩; exact HK2.out _ (HX.out.quiet 0 (by rfl) hb))
      | exact HK2.out _ (HX.out.quiet 0 (by rfl) (Below.refl _ _))
  simp only [Act.put, List.setIfInBounds_toArray, List.set_cons_succ, List.set_cons_zero]
  apply Ghost.walk_const (fun γ => by rfl)
  · intro γ L wx h1 h2 hx K hK
    have HXx := HB3.out.next hx.below
    have z0_0 : wx.cell? ⟨gl, 0, none⟩ = some (.int .u32 l1) := cell_of_row _ _ _ _ _ (0, 0) HXx.r0
    have z0_1 : wx.cell? ⟨gl, 1, none⟩ = some (.int .u32 l2) := cell_of_row _ _ _ _ _ (0, 0) HXx.r0
    have z0_2 : wx.cell? ⟨gl, 2, none⟩ = some (.int .u32 l3) := cell_of_row _ _ _ _ _ (0, 0) HXx.r0
    have hbt := HBT.out
    have hqc := HQ.out
    have HK2 := Lib.hid hK
    have HX := Lib.hid hx
    clear hK h1 h2 hx
    go_simp
    first
      | (go_at_call 25; (with_reducible refine (FU.out _).mono ?_); rintro e x1 ⟨rfl, hb⟩; exact HK2.out _ (HX.out.quiet 0 (by rfl) hb))
      | (go_at_call 25; (with_reducible refine (FD.out _).mono ?_); rintro e x1 ⟨rfl, hb⟩; exact HK2.out _ (HX.out.quiet 0 (by rfl) hb))
      | exact HK2.out _ (HX.out.quiet 0 (by rfl) (Below.refl _ _))
  simp only [Act.put, List.setIfInBounds_toArray, List.set_cons_succ, List.set_cons_zero]
  apply Ghost.walk_const (fun γ => by rfl)
  · intro γ L wx h1 h2 hx K hK
    have HXx := HB3.out.next hx.below
    have z0_0 : wx.cell? ⟨gl, 0, none⟩ = some (.int .u32 l1) := cell_of_row _ _ _ _ _ (0, 0) HXx.r0
    have z0_1 : wx.cell? ⟨gl, 1, none⟩ = some (.int .u32 l2) := cell_of_row _ _ _ _ _ (0, 0) HXx.r0
    have z0_2 : wx.cell? ⟨gl, 2, none⟩ = some (.int .u32 l3) := cell_of_row _ _ _ _ _ (0, 0) HXx.r0
    have hbt := HBT.out
    have hqc := HQ.out
    have HK2 := Lib.hid hK
    have HX := Lib.hid hx
    clear hK h1 h2 hx
    go_simp
    first
      | (go_at_call 25; (with_reducible refine (FU.out _).mono ?_); rintro e x1 ⟨rfl, hb⟩; exact HK2.out _ (HX.out.quiet 0 (by rfl) hb))
      | (go_at_call 25; (with_reducible refine (FD.out _).mono ?_); rintro e x1 ⟨rfl, hb⟩; exact HK2.out _ (HX.out.quiet 0 (by rfl) hb))
      | exact HK2.out _ (HX.out.quiet 0 (by rfl) (Below.refl _ _))
  simp only [Act.put, List.setIfInBounds_toArray, List.set_cons_succ, List.set_cons_zero]
  apply Ghost.walk_const (fun γ => by rfl)
  · intro γ L wx h1 h2 hx K hK
    have HXx := HB3.out.next hx.below
    have z0_0 : wx.cell? ⟨gl, 0, none⟩ = some (.int .u32 l1) := cell_of_row _ _ _ _ _ (0, 0) HXx.r0
    have z0_1 : wx.cell? ⟨gl, 1, none⟩ = some (.int .u32 l2) := cell_of_row _ _ _ _ _ (0, 0) HXx.r0
    have z0_2 : wx.cell? ⟨gl, 2, none⟩ = some (.int .u32 l3) := cell_of_row _ _ _ _ _ (0, 0) HXx.r0
    have hbt := HBT.out
    have hqc := HQ.out
    have HK2 := Lib.hid hK
    have HX := Lib.hid hx
    clear hK h1 h2 hx
    go_simp
    first
      | (go_at_call 25; (with_reducible refine (FU.out _).mono ?_); rintro e x1 ⟨rfl, hb⟩; exact HK2.out _ (HX.out.quiet 0 (by rfl) hb))
      | (go_at_call 25; (with_reducible refine (FD.out _).mono ?_); rintro e x1 ⟨rfl, hb⟩; exact HK2.out _ (HX.out.quiet 0 (by rfl) hb))
      | exact HK2.out _ (HX.out.quiet 0 (by rfl) (Below.refl _ _))
  simp only [Act.put, List.setIfInBounds_toArray, List.set_cons_succ, List.set_cons_zero]
  apply Ghost.walk_const (fun γ => by rfl)
  · intro γ L wx h1 h2 hx K hK
    have HXx := HB3.out.next hx.below
    have z0_0 : wx.cell? ⟨gl, 0, none⟩ = some (.int .u32 l1) := cell_of_row _ _ _ _ _ (0, 0) HXx.r0
    have z0_1 : wx.cell? ⟨gl, 1, none⟩ = some (.int .u32 l2) := cell_of_row _ _ _ _ _ (0, 0) HXx.r0
    have z0_2 : wx.cell? ⟨gl, 2, none⟩ = some (.int .u32 l3) := cell_of_row _ _ _ _ _ (0, 0) HXx.r0
    have hbt := HBT.out
    have hqc := HQ.out
    have HK2 := Lib.hid hK
    have HX := Lib.hid hx
    clear hK h1 h2 hx
    go_simp
    first
      | (go_at_call 25; (with_reducible refine (FU.out _).mono ?_); rintro e x1 ⟨rfl, hb⟩; exact HK2.out _ (HX.out.quiet 0 (by rfl) hb))
      | (go_at_call 25; (with_reducible refine (FD.out _).mono ?_); rintro e x1 ⟨rfl, hb⟩; exact HK2.out _ (HX.out.quiet 0 (by rfl) hb))
      | exact HK2.out _ (HX.out.quiet 0 (by rfl) (Below.refl _ _))
  simp only [Act.put, List.setIfInBounds_toArray, List.set_cons_succ, List.set_cons_zero]
  apply Ghost.walk_const (fun γ => by rfl)
  · intro γ L wx h1 h2 hx K hK
    have HXx := HB3.out.next hx.below
    have z0_0 : wx.cell? ⟨gl, 0, none⟩ = some (.int .u32 l1) := cell_of_row _ _ _ _ _ (0, 0) HXx.r0
    have z0_1 : wx.cell? ⟨gl, 1, none⟩ = some (.int .u32 l2) := cell_of_row _ _ _ _ _ (0, 0) HXx.r0
    have z0_2 : wx.cell? ⟨gl, 2, none⟩ = some (.int .u32 l3) := cell_of_row _ _ _ _ _ (0, 0) HXx.r0
    have hbt := HBT.out
    have hqc := HQ.out
    have HK2 := Lib.hid hK
    have HX := Lib.hid hx
    clear hK h1 h2 hx
    go_simp
    first
      | (go_at_call 25; (with_reducible refine (FU.out _).mono ?_); rintro e x1 ⟨rfl, hb⟩; exact HK2.out _ (HX.out.quiet 0 (by rfl) hb))
      | (go_at_call 25; (with_reducible refine (FD.out _).mono ?_); rintro e x1 ⟨rfl, hb⟩; exact HK2.out _ (HX.out.quiet 0 (by rfl) hb))
      | exact HK2.out _ (HX.out.quiet 0 (by rfl) (Below.refl _ _))
  simp only [Act.put, List.setIfInBounds_toArray, List.set_cons_succ, List.set_cons_zero]
  apply Ghost.walk_const (fun γ => by rfl)
  · intro γ L wx h1 h2 hx K hK
    have HXx := HB3.out.next hx.below
    have z0_0 : wx.cell? ⟨gl, 0, none⟩ = some (.int .u32 l1) := cell_of_row _ _ _ _ _ (0, 0) HXx.r0
    have z0_1 : wx.cell? ⟨gl, 1, none⟩ = some (.int .u32 l2) := cell_of_row _ _ _ _ _ (0, 0) HXx.r0
    have z0_2 : wx.cell? ⟨gl, 2, none⟩ = some (.int .u32 l3) := cell_of_row _ _ _ _ _ (0, 0) HXx.r0
    have hbt := HBT.out
    have hqc := HQ.out
    have HK2 := Lib.hid hK
    have HX := Lib.hid hx
    clear hK h1 h2 hx
    go_simp
    first
      | (go_at_call 25; (with_reducible refine (FU.out _).mono ?_); rintro e x1 ⟨rfl, hb⟩; exact HK2.out _ (HX.out.quiet 0 (by rfl) hb))
      | (go_at_call 25; (with_reducible refine (FD.out _).mono ?_); rintro e x1 ⟨rfl, hb⟩; exact HK2.out _ (HX.out.quiet 0 (by rfl) hb))
      | exact HK2.out _ (HX.out.quiet 0 (by rfl) (Below.refl _ _))
  simp only [Act.put, List.setIfInBounds_toArray, List.set_cons_succ, List.set_cons_zero]
  refine Ghost.walk_yes (fun b => .pointer (some ⟨b, 0, none⟩)) (fun γ => by rfl) ?_ ?_
  · intro γ L wx h1 h2 hx K hK
    have HK2 := Lib.hid hK
    clear hK h2
    have hL : L (⟨16, 17, 59, #[.bool false, .bool false, .bool false, .bool false, .bool false, .int .i64 0], #[.bool xu, .bool xd, .bool xc, .bool false, .bool false, .int .i64 0]⟩ : Decl).al = false := h1
    clear h1
    go_simp
    exact HK2.out wx.heap.size _ (hx.alloc (⟨16, 17, 59, #[.bool false, .bool false, .bool false, .bool false, .bool false, .int .i64 0], #[.bool xu, .bool xd, .bool xc, .bool false, .bool false, .int .i64 0]⟩ : Decl) (decl_mem _) hL (by rfl) (decl_al _))
  simp only [Act.put, List.setIfInBounds_toArray, List.set_cons_succ, List.set_cons_zero]
  refine Ghost.walk_yes (fun _ => undef) (fun γ => by rfl) ?_ ?_
  · intro γ L wx h1 h2 hx K hK
    have hA : L (⟨16, 17, 59, #[.bool false, .bool false, .bool false, .bool false, .bool false, .int .i64 0], #[.bool xu, .bool xd, .bool xc, .bool false, .bool false, .int .i64 0]⟩ : Decl).al = true := h2 16 (by kernel_rfl)
    exact hx.wp_store (⟨16, 17, 59, #[.bool false, .bool false, .bool false, .bool false, .bool false, .int .i64 0], #[.bool xu, .bool xd, .bool xc, .bool false, .bool false, .int .i64 0]⟩ : Decl) (decl_mem _) h1 hA _ _ rfl rfl rfl (by kernel_rfl) rfl (by kernel_rfl) (hK 0 _ (hx.store (⟨16, 17, 59, #[.bool false, .bool false, .bool false, .bool false, .bool false, .int .i64 0], #[.bool xu, .bool xd, .bool xc, .bool false, .bool false, .int .i64 0]⟩ : Decl) (decl_mem _) hA (by rfl) (decl_st _) (decl_al _) 0))
  simp only [Act.put]
  refine Ghost.walk_nil (fun γ L w4 hall hD => ?_)
  obtain ⟨hd4, hr4, hb4⟩ := hD.done1 hall (by show 16 < 18; decide) (by show 17 < 18; decide)
  clear hall hD
  simp only [Nat.zero_add, Nat.reduceAdd] at hd4 hr4 ⊢
  generalize γ 16 = gn at *
  have HB4 := Lib.hid (HB3.out.make hr4 hb4)
  have l4_0 : gl < gn := by omega
  have l4_1 : gx < gn := by omega
  have l4_2 : w.heap.size < gn := by omega
  have l4_3 : w.heap.size + 1 < gn := by omega
  have l4_4 : w.heap.size + 2 < gn := by omega
  have lw4 : w.heap.size ≤ gn := by have := HB3.out.below.size; omega
  clear hd4 hr4 hb4 HB3 q0 q1 q2 q3 q4
  have c0_0 : w4.cell? ⟨gn, 0, none⟩ = some (.bool xu) := cell_of_row _ _ _ _ _ (0, 0) HB4.out.r0
  have c0_1 : w4.cell? ⟨gn, 1, none⟩ = some (.bool xd) := cell_of_row _ _ _ _ _ (0, 0) HB4.out.r0
  have c0_2 : w4.cell? ⟨gn, 2, none⟩ = some (.bool xc) := cell_of_row _ _ _ _ _ (0, 0) HB4.out.r0
  have c0_3 : w4.cell? ⟨gn, 3, none⟩ = some (.bool false) := cell_of_row _ _ _ _ _ (0, 0) HB4.out.r0
  have c0_4 : w4.cell? ⟨gn, 4, none⟩ = some (.bool false) := cell_of_row _ _ _ _ _ (0, 0) HB4.out.r0
  have c0_5 : w4.cell? ⟨gn, 5, none⟩ = some (.int .i64 0) := cell_of_row _ _ _ _ _ (0, 0) HB4.out.r0
  have c4_0 : w4.cell? ⟨w.heap.size + 1, 0, none⟩ = some (.int .u32 t1) := cell_of_row _ _ _ _ _ (0, 0) HB4.out.r4
  have c4_1 : w4.cell? ⟨w.heap.size + 1, 1, none⟩ = some (.int .u32 t2) := cell_of_row _ _ _ _ _ (0, 0) HB4.out.r4
  have c4_2 : w4.cell? ⟨w.heap.size + 1, 2, none⟩ = some (.int .u32 t3) := cell_of_row _ _ _ _ _ (0, 0) HB4.out.r4
  go_wp2_with fail
  refine (FA.out _).mono ?_
  rintro e w5 ⟨rfl, hb5⟩
  have HB5 := Lib.hid (HB4.out.next hb5)
  clear c0_0 c0_1 c0_2 c0_3 c0_4 c0_5 c4_0 c4_1 c4_2 hb5 HB4
  have c0_0 : w5.cell? ⟨gn, 0, none⟩ = some (.bool xu) := cell_of_row _ _ _ _ _ (0, 0) HB5.out.r0
  have c0_1 : w5.cell? ⟨gn, 1, none⟩ = some (.bool xd) := cell_of_row _ _ _ _ _ (0, 0) HB5.out.r0
  have c0_2 : w5.cell? ⟨gn, 2, none⟩ = some (.bool xc) := cell_of_row _ _ _ _ _ (0, 0) HB5.out.r0
  have c0_3 : w5.cell? ⟨gn, 3, none⟩ = some (.bool false) := cell_of_row _ _ _ _ _ (0, 0) HB5.out.r0
  have c0_4 : w5.cell? ⟨gn, 4, none⟩ = some (.bool false) := cell_of_row _ _ _ _ _ (0, 0) HB5.out.r0
  have c0_5 : w5.cell? ⟨gn, 5, none⟩ = some (.int .i64 0) := cell_of_row _ _ _ _ _ (0, 0) HB5.out.r0
  have c4_0 : w5.cell? ⟨w.heap.size + 1, 0, none⟩ = some (.int .u32 t1) := cell_of_row _ _ _ _ _ (0, 0) HB5.out.r4
  have c4_1 : w5.cell? ⟨w.heap.size + 1, 1, none⟩ = some (.int .u32 t2) := cell_of_row _ _ _ _ _ (0, 0) HB5.out.r4
  have c4_2 : w5.cell? ⟨w.heap.size + 1, 2, none⟩ = some (.int .u32 t3) := cell_of_row _ _ _ _ _ (0, 0) HB5.out.r4
  go_wp2_with fail
  refine (FB.out _).mono ?_
  rintro e w6 ⟨rfl, hb6⟩
  have HB6 := Lib.hid (HB5.out.next hb6)
  clear c0_0 c0_1 c0_2 c0_3 c0_4 c0_5 c4_0 c4_1 c4_2 hb6 HB5
  go_wp2_with (with_reducible show wpList _ _ _ (Oper.mk _ (.store 4 _ _) _ _ _ _ :: _) _ _; refine Hid.out ?_)
  refine Lib.hid ?_
  refine wpList_putCell rfl 4 _ _ rfl (gn) 3 (.bool a) _ _ 59 rfl rfl HB6.out.r0 (by kernel_rfl) (by simp) rfl rfl rfl ?_
  intro w7 hr7 hg7
  have HB7 : Hid (Bx w [(gn, .cells #[.bool xu, .bool xd, .bool xc, .bool a, .bool false, .int .i64 0] 59 (0, 0)), (gl, .cells #[.int .u32 l1, .int .u32 l2, .int .u32 l3] 30 (0, 0)), (gx, .cells #[.int .u32 p1, .int .u32 p2, .int .u32 p3] 30 (0, 0)), (w.heap.size, .cells #[.int .i64 (d : Int), .int .i64 (o : Int)] 23 (0, 0)), (w.heap.size + 1, .cells #[.int .u32 t1, .int .u32 t2, .int .u32 t3] 30 (0, 0)), (w.heap.size + 2, .cells #[.bool false, .bool false, .bool false, .bool false, .bool false, .int .i64 0] 59 (0, 0))] w7) := Lib.hid (HB6.out.put (by omega) hg7.out hr7.out (by simp only [List.mem_cons, List.not_mem_nil, or_false]; rintro p (rfl | rfl | rfl | rfl | rfl | rfl) <;> simp <;> omega))
  clear hr7 hg7 HB6
  go_wp2_with (with_reducible show wpList _ _ _ (Oper.mk _ (.store 4 _ _) _ _ _ _ :: _) _ _; refine Hid.out ?_)
  refine Lib.hid ?_
  refine wpList_putCell rfl 4 _ _ rfl (gn) 4 (.bool b) _ _ 59 rfl rfl HB7.out.r0 (by kernel_rfl) (by simp) rfl rfl rfl ?_
  intro w8 hr8 hg8
  have HB8 : Hid (Bx w [(gn, .cells #[.bool xu, .bool xd, .bool xc, .bool a, .bool b, .int .i64 0] 59 (0, 0)), (gl, .cells #[.int .u32 l1, .int .u32 l2, .int .u32 l3] 30 (0, 0)), (gx, .cells #[.int .u32 p1, .int .u32 p2, .int .u32 p3] 30 (0, 0)), (w.heap.size, .cells #[.int .i64 (d : Int), .int .i64 (o : Int)] 23 (0, 0)), (w.heap.size + 1, .cells #[.int .u32 t1, .int .u32 t2, .int .u32 t3] 30 (0, 0)), (w.heap.size + 2, .cells #[.bool false, .bool false, .bool false, .bool false, .bool false, .int .i64 0] 59 (0, 0))] w8) := Lib.hid (HB7.out.put (by omega) hg8.out hr8.out (by simp only [List.mem_cons, List.not_mem_nil, or_false]; rintro p (rfl | rfl | rfl | rfl | rfl | rfl) <;> simp <;> omega))
  clear hr8 hg8 HB7
  have c0_0 : w8.cell? ⟨gn, 0, none⟩ = some (.bool xu) := cell_of_row _ _ _ _ _ (0, 0) HB8.out.r0
  have c0_1 : w8.cell? ⟨gn, 1, none⟩ = some (.bool xd) := cell_of_row _ _ _ _ _ (0, 0) HB8.out.r0
  have c0_2 : w8.cell? ⟨gn, 2, none⟩ = some (.bool xc) := cell_of_row _ _ _ _ _ (0, 0) HB8.out.r0
  have c0_3 : w8.cell? ⟨gn, 3, none⟩ = some (.bool a) := cell_of_row _ _ _ _ _ (0, 0) HB8.out.r0
  have c0_4 : w8.cell? ⟨gn, 4, none⟩ = some (.bool b) := cell_of_row _ _ _ _ _ (0, 0) HB8.out.r0
  have c0_5 : w8.cell? ⟨gn, 5, none⟩ = some (.int .i64 0) := cell_of_row _ _ _ _ _ (0, 0) HB8.out.r0
  cases a
  all_goals
    cases b
  · obtain rfl : xn = 0 := by have h := HNR.out; simp [Cv.nearR] at h; omega
    have HZ := Lib.hid True.intro
    clear HZ
    go_wp2_with (with_reducible show wpList _ _ _ (Oper.mk _ (.store 59 _ _) _ _ _ _ :: _) _ _; refine Hid.out ?_)
    refine Lib.hid ?_
    refine wpList_put rfl 59 _ _ rfl (w.heap.size + 2) #[.bool xu, .bool xd, .bool xc, .bool false, .bool false, .int .i64 0] _ 59 rfl rfl HB8.out.r5 (by kernel_rfl) rfl (by kernel_rfl) ?_
    intro w9 hr9 hg9
    have HB9 : Hid (Bx w [(gn, .cells #[.bool xu, .bool xd, .bool xc, .bool false, .bool false, .int .i64 0] 59 (0, 0)), (gl, .cells #[.int .u32 l1, .int .u32 l2, .int .u32 l3] 30 (0, 0)), (gx, .cells #[.int .u32 p1, .int .u32 p2, .int .u32 p3] 30 (0, 0)), (w.heap.size, .cells #[.int .i64 (d : Int), .int .i64 (o : Int)] 23 (0, 0)), (w.heap.size + 1, .cells #[.int .u32 t1, .int .u32 t2, .int .u32 t3] 30 (0, 0)), (w.heap.size + 2, .cells #[.bool xu, .bool xd, .bool xc, .bool false, .bool false, .int .i64 0] 59 (0, 0))] w9) := Lib.hid (HB8.out.put (by omega) hg9.out hr9.out (by simp only [List.mem_cons, List.not_mem_nil, or_false]; rintro p (rfl | rfl | rfl | rfl | rfl | rfl) <;> simp <;> omega))
    clear c0_0 c0_1 c0_2 c0_3 c0_4 c0_5 hr9 hg9 HB8
    go_wp2_with fail
    exact bodyPost_ret (results_cell_row Tryd.results26 _ _ _ _ _ (0, 0) _ rfl (HB9.out.r5) Tryd.underlying59 rfl (by kernel_rfl)) rfl (⟨rfl, HB9.out.below⟩)
  · obtain rfl : xn = 2 := by have h := HNR.out; simp [Cv.nearR] at h; omega
    go_wp2_with (with_reducible show wpList _ _ _ (Oper.mk _ (.store 3 _ _) _ _ _ _ :: _) _ _; refine Hid.out ?_)
    refine Lib.hid ?_
    refine wpList_putCell rfl 3 _ _ rfl (gn) 5 (.int .i64 2) _ _ 59 rfl rfl HB8.out.r0 (by kernel_rfl) (by simp) rfl rfl rfl ?_
    intro w9 hr9 hg9
    have HB9 : Hid (Bx w [(gn, .cells #[.bool xu, .bool xd, .bool xc, .bool false, .bool true, .int .i64 2] 59 (0, 0)), (gl, .cells #[.int .u32 l1, .int .u32 l2, .int .u32 l3] 30 (0, 0)), (gx, .cells #[.int .u32 p1, .int .u32 p2, .int .u32 p3] 30 (0, 0)), (w.heap.size, .cells #[.int .i64 (d : Int), .int .i64 (o : Int)] 23 (0, 0)), (w.heap.size + 1, .cells #[.int .u32 t1, .int .u32 t2, .int .u32 t3] 30 (0, 0)), (w.heap.size + 2, .cells #[.bool false, .bool false, .bool false, .bool false, .bool false, .int .i64 0] 59 (0, 0))] w9) := Lib.hid (HB8.out.put (by omega) hg9.out hr9.out (by simp only [List.mem_cons, List.not_mem_nil, or_false]; rintro p (rfl | rfl | rfl | rfl | rfl | rfl) <;> simp <;> omega))
    clear c0_0 c0_1 c0_2 c0_3 c0_4 c0_5 hr9 hg9 HB8
    have HZ := Lib.hid True.intro
    clear HZ
    have c0_0 : w9.cell? ⟨gn, 0, none⟩ = some (.bool xu) := cell_of_row _ _ _ _ _ (0, 0) HB9.out.r0
    have c0_1 : w9.cell? ⟨gn, 1, none⟩ = some (.bool xd) := cell_of_row _ _ _ _ _ (0, 0) HB9.out.r0
    have c0_2 : w9.cell? ⟨gn, 2, none⟩ = some (.bool xc) := cell_of_row _ _ _ _ _ (0, 0) HB9.out.r0
    have c0_3 : w9.cell? ⟨gn, 3, none⟩ = some (.bool false) := cell_of_row _ _ _ _ _ (0, 0) HB9.out.r0
    have c0_4 : w9.cell? ⟨gn, 4, none⟩ = some (.bool true) := cell_of_row _ _ _ _ _ (0, 0) HB9.out.r0
    have c0_5 : w9.cell? ⟨gn, 5, none⟩ = some (.int .i64 2) := cell_of_row _ _ _ _ _ (0, 0) HB9.out.r0
    go_wp2_with (with_reducible show wpList _ _ _ (Oper.mk _ (.store 59 _ _) _ _ _ _ :: _) _ _; refine Hid.out ?_)
    refine Lib.hid ?_
    refine wpList_put rfl 59 _ _ rfl (w.heap.size + 2) #[.bool xu, .bool xd, .bool xc, .bool false, .bool true, .int .i64 2] _ 59 rfl rfl HB9.out.r5 (by kernel_rfl) rfl (by kernel_rfl) ?_
    intro w10 hr10 hg10
    have HB10 : Hid (Bx w [(gn, .cells #[.bool xu, .bool xd, .bool xc, .bool false, .bool true, .int .i64 2] 59 (0, 0)), (gl, .cells #[.int .u32 l1, .int .u32 l2, .int .u32 l3] 30 (0, 0)), (gx, .cells #[.int .u32 p1, .int .u32 p2, .int .u32 p3] 30 (0, 0)), (w.heap.size, .cells #[.int .i64 (d : Int), .int .i64 (o : Int)] 23 (0, 0)), (w.heap.size + 1, .cells #[.int .u32 t1, .int .u32 t2, .int .u32 t3] 30 (0, 0)), (w.heap.size + 2, .cells #[.bool xu, .bool xd, .bool xc, .bool false, .bool true, .int .i64 2] 59 (0, 0))] w10) := Lib.hid (HB9.out.put (by omega) hg10.out hr10.out (by simp only [List.mem_cons, List.not_mem_nil, or_false]; rintro p (rfl | rfl | rfl | rfl | rfl | rfl) <;> simp <;> omega))
    clear c0_0 c0_1 c0_2 c0_3 c0_4 c0_5 hr10 hg10 HB9
    go_wp2_with fail
    exact bodyPost_ret (results_cell_row Tryd.results26 _ _ _ _ _ (0, 0) _ rfl (HB10.out.r5) Tryd.underlying59 rfl (by kernel_rfl)) rfl (⟨rfl, HB10.out.below⟩)
  · obtain rfl : xn = 1 := by have h := HNR.out; simp [Cv.nearR] at h; omega
    go_wp2_with (with_reducible show wpList _ _ _ (Oper.mk _ (.store 3 _ _) _ _ _ _ :: _) _ _; refine Hid.out ?_)
    refine Lib.hid ?_
    refine wpList_putCell rfl 3 _ _ rfl (gn) 5 (.int .i64 1) _ _ 59 rfl rfl HB8.out.r0 (by kernel_rfl) (by simp) rfl rfl rfl ?_
    intro w9 hr9 hg9
    have HB9 : Hid (Bx w [(gn, .cells #[.bool xu, .bool xd, .bool xc, .bool true, .bool false, .int .i64 1] 59 (0, 0)), (gl, .cells #[.int .u32 l1, .int .u32 l2, .int .u32 l3] 30 (0, 0)), (gx, .cells #[.int .u32 p1, .int .u32 p2, .int .u32 p3] 30 (0, 0)), (w.heap.size, .cells #[.int .i64 (d : Int), .int .i64 (o : Int)] 23 (0, 0)), (w.heap.size + 1, .cells #[.int .u32 t1, .int .u32 t2, .int .u32 t3] 30 (0, 0)), (w.heap.size + 2, .cells #[.bool false, .bool false, .bool false, .bool false, .bool false, .int .i64 0] 59 (0, 0))] w9) := Lib.hid (HB8.out.put (by omega) hg9.out hr9.out (by simp only [List.mem_cons, List.not_mem_nil, or_false]; rintro p (rfl | rfl | rfl | rfl | rfl | rfl) <;> simp <;> omega))
    clear c0_0 c0_1 c0_2 c0_3 c0_4 c0_5 hr9 hg9 HB8
    have HZ := Lib.hid True.intro
    clear HZ
    have c0_0 : w9.cell? ⟨gn, 0, none⟩ = some (.bool xu) := cell_of_row _ _ _ _ _ (0, 0) HB9.out.r0
    have c0_1 : w9.cell? ⟨gn, 1, none⟩ = some (.bool xd) := cell_of_row _ _ _ _ _ (0, 0) HB9.out.r0
    have c0_2 : w9.cell? ⟨gn, 2, none⟩ = some (.bool xc) := cell_of_row _ _ _ _ _ (0, 0) HB9.out.r0
    have c0_3 : w9.cell? ⟨gn, 3, none⟩ = some (.bool true) := cell_of_row _ _ _ _ _ (0, 0) HB9.out.r0
    have c0_4 : w9.cell? ⟨gn, 4, none⟩ = some (.bool false) := cell_of_row _ _ _ _ _ (0, 0) HB9.out.r0
    have c0_5 : w9.cell? ⟨gn, 5, none⟩ = some (.int .i64 1) := cell_of_row _ _ _ _ _ (0, 0) HB9.out.r0
    go_wp2_with (with_reducible show wpList _ _ _ (Oper.mk _ (.store 59 _ _) _ _ _ _ :: _) _ _; refine Hid.out ?_)
    refine Lib.hid ?_
    refine wpList_put rfl 59 _ _ rfl (w.heap.size + 2) #[.bool xu, .bool xd, .bool xc, .bool true, .bool false, .int .i64 1] _ 59 rfl rfl HB9.out.r5 (by kernel_rfl) rfl (by kernel_rfl) ?_
    intro w10 hr10 hg10
    have HB10 : Hid (Bx w [(gn, .cells #[.bool xu, .bool xd, .bool xc, .bool true, .bool false, .int .i64 1] 59 (0, 0)), (gl, .cells #[.int .u32 l1, .int .u32 l2, .int .u32 l3] 30 (0, 0)), (gx, .cells #[.int .u32 p1, .int .u32 p2, .int .u32 p3] 30 (0, 0)), (w.heap.size, .cells #[.int .i64 (d : Int), .int .i64 (o : Int)] 23 (0, 0)), (w.heap.size + 1, .cells #[.int .u32 t1, .int .u32 t2, .int .u32 t3] 30 (0, 0)), (w.heap.size + 2, .cells #[.bool xu, .bool xd, .bool xc, .bool true, .bool false, .int .i64 1] 59 (0, 0))] w10) := Lib.hid (HB9.out.put (by omega) hg10.out hr10.out (by simp only [List.mem_cons, List.not_mem_nil, or_false]; rintro p (rfl | rfl | rfl | rfl | rfl | rfl) <;> simp <;> omega))
    clear c0_0 c0_1 c0_2 c0_3 c0_4 c0_5 hr10 hg10 HB9
    go_wp2_with fail
    exact bodyPost_ret (results_cell_row Tryd.results26 _ _ _ _ _ (0, 0) _ rfl (HB10.out.r5) Tryd.underlying59 rfl (by kernel_rfl)) rfl (⟨rfl, HB10.out.below⟩)
  · by_cases hnm : n ≤ m
    · obtain rfl : xn = 1 := by have h := HNR.out; simp [Cv.nearR, hnm] at h; omega
      have hB : decide (m ≥ n) = true := decide_eq_true hnm
      go_wp2_with (with_reducible show wpList _ _ _ (Oper.mk _ (.store 3 _ _) _ _ _ _ :: _) _ _; refine Hid.out ?_)
      refine Lib.hid ?_
      refine wpList_putCell rfl 3 _ _ rfl (gn) 5 (.int .i64 1) _ _ 59 rfl rfl HB8.out.r0 (by kernel_rfl) (by simp) rfl rfl rfl ?_
      intro w9 hr9 hg9
      have HB9 : Hid (Bx w [(gn, .cells #[.bool xu, .bool xd, .bool xc, .bool true, .bool true, .int .i64 1] 59 (0, 0)), (gl, .cells #[.int .u32 l1, .int .u32 l2, .int .u32 l3] 30 (0, 0)), (gx, .cells #[.int .u32 p1, .int .u32 p2, .int .u32 p3] 30 (0, 0)), (w.heap.size, .cells #[.int .i64 (d : Int), .int .i64 (o : Int)] 23 (0, 0)), (w.heap.size + 1, .cells #[.int .u32 t1, .int .u32 t2, .int .u32 t3] 30 (0, 0)), (w.heap.size + 2, .cells #[.bool false, .bool false, .bool false, .bool false, .bool false, .int .i64 0] 59 (0, 0))] w9) := Lib.hid (HB8.out.put (by omega) hg9.out hr9.out (by simp only [List.mem_cons, List.not_mem_nil, or_false]; rintro p (rfl | rfl | rfl | rfl | rfl | rfl) <;> simp <;> omega))
      clear c0_0 c0_1 c0_2 c0_3 c0_4 c0_5 hr9 hg9 HB8
      have HZ := Lib.hid True.intro
      clear HZ
      have c0_0 : w9.cell? ⟨gn, 0, none⟩ = some (.bool xu) := cell_of_row _ _ _ _ _ (0, 0) HB9.out.r0
      have c0_1 : w9.cell? ⟨gn, 1, none⟩ = some (.bool xd) := cell_of_row _ _ _ _ _ (0, 0) HB9.out.r0
      have c0_2 : w9.cell? ⟨gn, 2, none⟩ = some (.bool xc) := cell_of_row _ _ _ _ _ (0, 0) HB9.out.r0
      have c0_3 : w9.cell? ⟨gn, 3, none⟩ = some (.bool true) := cell_of_row _ _ _ _ _ (0, 0) HB9.out.r0
      have c0_4 : w9.cell? ⟨gn, 4, none⟩ = some (.bool true) := cell_of_row _ _ _ _ _ (0, 0) HB9.out.r0
      have c0_5 : w9.cell? ⟨gn, 5, none⟩ = some (.int .i64 1) := cell_of_row _ _ _ _ _ (0, 0) HB9.out.r0
      go_wp2_with (with_reducible show wpList _ _ _ (Oper.mk _ (.store 59 _ _) _ _ _ _ :: _) _ _; refine Hid.out ?_)
      refine Lib.hid ?_
      refine wpList_put rfl 59 _ _ rfl (w.heap.size + 2) #[.bool xu, .bool xd, .bool xc, .bool true, .bool true, .int .i64 1] _ 59 rfl rfl HB9.out.r5 (by kernel_rfl) rfl (by kernel_rfl) ?_
      intro w10 hr10 hg10
      have HB10 : Hid (Bx w [(gn, .cells #[.bool xu, .bool xd, .bool xc, .bool true, .bool true, .int .i64 1] 59 (0, 0)), (gl, .cells #[.int .u32 l1, .int .u32 l2, .int .u32 l3] 30 (0, 0)), (gx, .cells #[.int .u32 p1, .int .u32 p2, .int .u32 p3] 30 (0, 0)), (w.heap.size, .cells #[.int .i64 (d : Int), .int .i64 (o : Int)] 23 (0, 0)), (w.heap.size + 1, .cells #[.int .u32 t1, .int .u32 t2, .int .u32 t3] 30 (0, 0)), (w.heap.size + 2, .cells #[.bool xu, .bool xd, .bool xc, .bool true, .bool true, .int .i64 1] 59 (0, 0))] w10) := Lib.hid (HB9.out.put (by omega) hg10.out hr10.out (by simp only [List.mem_cons, List.not_mem_nil, or_false]; rintro p (rfl | rfl | rfl | rfl | rfl | rfl) <;> simp <;> omega))
      clear c0_0 c0_1 c0_2 c0_3 c0_4 c0_5 hr10 hg10 HB9
      go_wp2_with fail
      exact bodyPost_ret (results_cell_row Tryd.results26 _ _ _ _ _ (0, 0) _ rfl (HB10.out.r5) Tryd.underlying59 rfl (by kernel_rfl)) rfl (⟨rfl, HB10.out.below⟩)
    · obtain rfl : xn = 2 := by have h := HNR.out; simp [Cv.nearR, hnm] at h; omega
      have hB : decide (m ≥ n) = false := decide_eq_false hnm
      go_wp2_with (with_reducible show wpList _ _ _ (Oper.mk _ (.store 3 _ _) _ _ _ _ :: _) _ _; refine Hid.out ?_)
      refine Lib.hid ?_
      refine wpList_putCell rfl 3 _ _ rfl (gn) 5 (.int .i64 2) _ _ 59 rfl rfl HB8.out.r0 (by kernel_rfl) (by simp) rfl rfl rfl ?_
      intro w9 hr9 hg9
      have HB9 : Hid (Bx w [(gn, .cells #[.bool xu, .bool xd, .bool xc, .bool true, .bool true, .int .i64 2] 59 (0, 0)), (gl, .cells #[.int .u32 l1, .int .u32 l2, .int .u32 l3] 30 (0, 0)), (gx, .cells #[.int .u32 p1, .int .u32 p2, .int .u32 p3] 30 (0, 0)), (w.heap.size, .cells #[.int .i64 (d : Int), .int .i64 (o : Int)] 23 (0, 0)), (w.heap.size + 1, .cells #[.int .u32 t1, .int .u32 t2, .int .u32 t3] 30 (0, 0)), (w.heap.size + 2, .cells #[.bool false, .bool false, .bool false, .bool false, .bool false, .int .i64 0] 59 (0, 0))] w9) := Lib.hid (HB8.out.put (by omega) hg9.out hr9.out (by simp only [List.mem_cons, List.not_mem_nil, or_false]; rintro p (rfl | rfl | rfl | rfl | rfl | rfl) <;> simp <;> omega))
      clear c0_0 c0_1 c0_2 c0_3 c0_4 c0_5 hr9 hg9 HB8
      have HZ := Lib.hid True.intro
      clear HZ
      have c0_0 : w9.cell? ⟨gn, 0, none⟩ = some (.bool xu) := cell_of_row _ _ _ _ _ (0, 0) HB9.out.r0
      have c0_1 : w9.cell? ⟨gn, 1, none⟩ = some (.bool xd) := cell_of_row _ _ _ _ _ (0, 0) HB9.out.r0
      have c0_2 : w9.cell? ⟨gn, 2, none⟩ = some (.bool xc) := cell_of_row _ _ _ _ _ (0, 0) HB9.out.r0
      have c0_3 : w9.cell? ⟨gn, 3, none⟩ = some (.bool true) := cell_of_row _ _ _ _ _ (0, 0) HB9.out.r0
      have c0_4 : w9.cell? ⟨gn, 4, none⟩ = some (.bool true) := cell_of_row _ _ _ _ _ (0, 0) HB9.out.r0
      have c0_5 : w9.cell? ⟨gn, 5, none⟩ = some (.int .i64 2) := cell_of_row _ _ _ _ _ (0, 0) HB9.out.r0
      go_wp2_with (with_reducible show wpList _ _ _ (Oper.mk _ (.store 59 _ _) _ _ _ _ :: _) _ _; refine Hid.out ?_)
      refine Lib.hid ?_
      refine wpList_put rfl 59 _ _ rfl (w.heap.size + 2) #[.bool xu, .bool xd, .bool xc, .bool true, .bool true, .int .i64 2] _ 59 rfl rfl HB9.out.r5 (by kernel_rfl) rfl (by kernel_rfl) ?_
      intro w10 hr10 hg10
      have HB10 : Hid (Bx w [(gn, .cells #[.bool xu, .bool xd, .bool xc, .bool true, .bool true, .int .i64 2] 59 (0, 0)), (gl, .cells #[.int .u32 l1, .int .u32 l2, .int .u32 l3] 30 (0, 0)), (gx, .cells #[.int .u32 p1, .int .u32 p2, .int .u32 p3] 30 (0, 0)), (w.heap.size, .cells #[.int .i64 (d : Int), .int .i64 (o : Int)] 23 (0, 0)), (w.heap.size + 1, .cells #[.int .u32 t1, .int .u32 t2, .int .u32 t3] 30 (0, 0)), (w.heap.size + 2, .cells #[.bool xu, .bool xd, .bool xc, .bool true, .bool true, .int .i64 2] 59 (0, 0))] w10) := Lib.hid (HB9.out.put (by omega) hg10.out hr10.out (by simp only [List.mem_cons, List.not_mem_nil, or_false]; rintro p (rfl | rfl | rfl | rfl | rfl | rfl) <;> simp <;> omega))
      clear c0_0 c0_1 c0_2 c0_3 c0_4 c0_5 hr10 hg10 HB9
      go_wp2_with fail
      exact bodyPost_ret (results_cell_row Tryd.results26 _ _ _ _ _ (0, 0) _ rfl (HB10.out.r5) Tryd.underlying59 rfl (by kernel_rfl)) rfl (⟨rfl, HB10.out.below⟩)
end Go.Proofs.YteniimbcbjbegaaDoor
