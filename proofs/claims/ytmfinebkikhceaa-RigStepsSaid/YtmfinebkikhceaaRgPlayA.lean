/- Step of the played drive, any time: a step goes on; up and down. No statement of the seat is proved here. -/
import Derived.Test.YtmfinebkikhceaaRgPlay
import Derived.Test.YtmfinebkikhceaaRgE
namespace Go.Proofs.Ytmfinebkikhceaa
open Go.RowKit
set_option maxRecDepth 4000
set_option linter.unusedSimpArgs false
set_option linter.unusedVariables false

set_option maxHeartbeats 8000000 in
theorem playS_bad (F : Int) (r : Rg) (m t : Int) (w : World) (h : Rg.isB F r = false) :
    Calls Try.prog 21 #[.int .i64 F, r.agg, .int .i64 m, .int .i64 t] w fun ee w' => ee = .returned ((Rg.new 0).agg) ∧ Below w.heap.size w w' := by
  have FI := Lib.hid (fun wx => playIs_any F r wx)
  rw [h] at FI
  have FN := Lib.hid (fun wx => playNew_any 0 wx)
  obtain ⟨fl, tg, lf, dd, am, tk⟩ := r
  rw [show (Rg.new 0).agg = .agg #[.int .i64 0, .int .i64 0, .int .i64 0, .int .i64 2, .int .i64 0, .int .i64 0] from rfl] at *
  simp only [Rg.agg] at *
  clear h
  have HB0 := Lib.hid (bxs2 w (.cells #[.int .i64 fl, .int .i64 tg, .int .i64 lf, .int .i64 dd, .int .i64 am, .int .i64 tk] 23) (.cells #[.int .i64 0, .int .i64 0, .int .i64 0, .int .i64 0, .int .i64 0, .int .i64 0] 23))
  go_enter Try.func21, Try.ntmps21
  go_wp2_with fail
  refine (FI.out _).mono ?_
  rintro e w1 ⟨rfl, hb1⟩
  have HB1 := Lib.hid (HB0.out.next hb1)
  clear hb1 HB0
  have c0_0 : w1.cell? ⟨w.heap.size, 0, none⟩ = some (.int .i64 fl) := cell_of_row _ _ _ _ _ (0, 0) HB1.out.r0
  have c0_1 : w1.cell? ⟨w.heap.size, 1, none⟩ = some (.int .i64 tg) := cell_of_row _ _ _ _ _ (0, 0) HB1.out.r0
  have c0_2 : w1.cell? ⟨w.heap.size, 2, none⟩ = some (.int .i64 lf) := cell_of_row _ _ _ _ _ (0, 0) HB1.out.r0
  have c0_3 : w1.cell? ⟨w.heap.size, 3, none⟩ = some (.int .i64 dd) := cell_of_row _ _ _ _ _ (0, 0) HB1.out.r0
  have c0_4 : w1.cell? ⟨w.heap.size, 4, none⟩ = some (.int .i64 am) := cell_of_row _ _ _ _ _ (0, 0) HB1.out.r0
  have c0_5 : w1.cell? ⟨w.heap.size, 5, none⟩ = some (.int .i64 tk) := cell_of_row _ _ _ _ _ (0, 0) HB1.out.r0
  have c1_0 : w1.cell? ⟨w.heap.size + 1, 0, none⟩ = some (.int .i64 0) := cell_of_row _ _ _ _ _ (0, 0) HB1.out.r1
  have c1_1 : w1.cell? ⟨w.heap.size + 1, 1, none⟩ = some (.int .i64 0) := cell_of_row _ _ _ _ _ (0, 0) HB1.out.r1
  have c1_2 : w1.cell? ⟨w.heap.size + 1, 2, none⟩ = some (.int .i64 0) := cell_of_row _ _ _ _ _ (0, 0) HB1.out.r1
  have c1_3 : w1.cell? ⟨w.heap.size + 1, 3, none⟩ = some (.int .i64 0) := cell_of_row _ _ _ _ _ (0, 0) HB1.out.r1
  have c1_4 : w1.cell? ⟨w.heap.size + 1, 4, none⟩ = some (.int .i64 0) := cell_of_row _ _ _ _ _ (0, 0) HB1.out.r1
  have c1_5 : w1.cell? ⟨w.heap.size + 1, 5, none⟩ = some (.int .i64 0) := cell_of_row _ _ _ _ _ (0, 0) HB1.out.r1
  go_wp2_with fail
  refine (FN.out _).mono ?_
  rintro e w2 ⟨rfl, hb2⟩
  have HB2 := Lib.hid (HB1.out.next hb2)
  clear c0_0 c0_1 c0_2 c0_3 c0_4 c0_5 c1_0 c1_1 c1_2 c1_3 c1_4 c1_5 hb2 HB1
  have c0_0 : w2.cell? ⟨w.heap.size, 0, none⟩ = some (.int .i64 fl) := cell_of_row _ _ _ _ _ (0, 0) HB2.out.r0
  have c0_1 : w2.cell? ⟨w.heap.size, 1, none⟩ = some (.int .i64 tg) := cell_of_row _ _ _ _ _ (0, 0) HB2.out.r0
  have c0_2 : w2.cell? ⟨w.heap.size, 2, none⟩ = some (.int .i64 lf) := cell_of_row _ _ _ _ _ (0, 0) HB2.out.r0
  have c0_3 : w2.cell? ⟨w.heap.size, 3, none⟩ = some (.int .i64 dd) := cell_of_row _ _ _ _ _ (0, 0) HB2.out.r0
  have c0_4 : w2.cell? ⟨w.heap.size, 4, none⟩ = some (.int .i64 am) := cell_of_row _ _ _ _ _ (0, 0) HB2.out.r0
  have c0_5 : w2.cell? ⟨w.heap.size, 5, none⟩ = some (.int .i64 tk) := cell_of_row _ _ _ _ _ (0, 0) HB2.out.r0
  have c1_0 : w2.cell? ⟨w.heap.size + 1, 0, none⟩ = some (.int .i64 0) := cell_of_row _ _ _ _ _ (0, 0) HB2.out.r1
  have c1_1 : w2.cell? ⟨w.heap.size + 1, 1, none⟩ = some (.int .i64 0) := cell_of_row _ _ _ _ _ (0, 0) HB2.out.r1
  have c1_2 : w2.cell? ⟨w.heap.size + 1, 2, none⟩ = some (.int .i64 0) := cell_of_row _ _ _ _ _ (0, 0) HB2.out.r1
  have c1_3 : w2.cell? ⟨w.heap.size + 1, 3, none⟩ = some (.int .i64 0) := cell_of_row _ _ _ _ _ (0, 0) HB2.out.r1
  have c1_4 : w2.cell? ⟨w.heap.size + 1, 4, none⟩ = some (.int .i64 0) := cell_of_row _ _ _ _ _ (0, 0) HB2.out.r1
  have c1_5 : w2.cell? ⟨w.heap.size + 1, 5, none⟩ = some (.int .i64 0) := cell_of_row _ _ _ _ _ (0, 0) HB2.out.r1
  go_wp2_with (with_reducible show wpList _ _ _ (Oper.mk _ (.store 23 _ _) _ _ _ _ :: _) _ _; refine Hid.out ?_)
  refine Lib.hid ?_
  refine wpList_put rfl 23 _ _ rfl (w.heap.size + 1) #[.int .i64 0, .int .i64 0, .int .i64 0, .int .i64 2, .int .i64 0, .int .i64 0] _ 23 rfl rfl HB2.out.r1 (by kernel_rfl) rfl (by kernel_rfl) ?_
  intro w3 hr3 hg3
  have HB3 : Hid (Bx w [(w.heap.size, .cells #[.int .i64 fl, .int .i64 tg, .int .i64 lf, .int .i64 dd, .int .i64 am, .int .i64 tk] 23 (0, 0)), (w.heap.size + 1, .cells #[.int .i64 0, .int .i64 0, .int .i64 0, .int .i64 2, .int .i64 0, .int .i64 0] 23 (0, 0))] w3) := Lib.hid (HB2.out.put (by omega) hg3.out hr3.out (by simp only [List.mem_cons, List.not_mem_nil, or_false]; rintro p (rfl | rfl) <;> simp <;> omega))
  clear c0_0 c0_1 c0_2 c0_3 c0_4 c0_5 c1_0 c1_1 c1_2 c1_3 c1_4 c1_5 hr3 hg3 HB2
  go_wp2_with fail
  exact bodyPost_ret (results_cell_row Try.results21 _ _ _ _ _ (0, 0) _ rfl (HB3.out.r1) Try.underlying23 rfl (by kernel_rfl)) rfl (⟨rfl, HB3.out.below⟩)
set_option maxHeartbeats 8000000 in
theorem playS_on (F : Int) (r : Rg) (m t u T : Int) (w : World) (h : Rg.Ok F r) (hu : (if 10000 < t then (10000 : Int) else t) = u) (hT : (if 1 < u then u else 1) = T) (hT1 : 1 ≤ T ∧ T ≤ 10000) (hl : 0 < r.lf) :
    Calls Try.prog 21 #[.int .i64 F, r.agg, .int .i64 m, .int .i64 t] w fun ee w' => ee = .returned ((Rg.stepF F r m T).agg) ∧ Below w.heap.size w w' := by
  have FI := Lib.hid (fun wx => playIs_any F r wx)
  rw [Rg.isB_iff.2 h] at FI
  have FA := Lib.hid (fun q wx => playArr_any q wx)
  have hst : Rg.stepF F r m T = Rg.arr ⟨r.fl, r.tg, r.lf - 1, r.dd, r.am, r.tk⟩ := if_pos hl
  rw [hst]
  have FA := Lib.hid (FA.out ⟨r.fl, r.tg, r.lf - 1, r.dd, r.am, r.tk⟩)
  have hs := h.step
  generalize Rg.arr ⟨r.fl, r.tg, r.lf - 1, r.dd, r.am, r.tk⟩ = v at *
  clear hst h hT1
  obtain ⟨fl, tg, lf, dd, am, tk⟩ := r
  simp only at hl hs FA
  obtain ⟨a1, a2, a3, a4, a5, a6⟩ := v
  simp only [Rg.agg] at *
  have hw : IntKind.i64.wrap (lf - 1) = lf - 1 := by rw [IntKind.wrap_i64]; omega
  clear hs
  have HB0 := Lib.hid (bxs2 w (.cells #[.int .i64 fl, .int .i64 tg, .int .i64 lf, .int .i64 dd, .int .i64 am, .int .i64 tk] 23) (.cells #[.int .i64 0, .int .i64 0, .int .i64 0, .int .i64 0, .int .i64 0, .int .i64 0] 23))
  go_enter Try.func21, Try.ntmps21
  go_wp2_with fail
  refine (FI.out _).mono ?_
  rintro e w1 ⟨rfl, hb1⟩
  have HB1 := Lib.hid (HB0.out.next hb1)
  clear hb1 HB0
  have c0_0 : w1.cell? ⟨w.heap.size, 0, none⟩ = some (.int .i64 fl) := cell_of_row _ _ _ _ _ (0, 0) HB1.out.r0
  have c0_1 : w1.cell? ⟨w.heap.size, 1, none⟩ = some (.int .i64 tg) := cell_of_row _ _ _ _ _ (0, 0) HB1.out.r0
  have c0_2 : w1.cell? ⟨w.heap.size, 2, none⟩ = some (.int .i64 lf) := cell_of_row _ _ _ _ _ (0, 0) HB1.out.r0
  have c0_3 : w1.cell? ⟨w.heap.size, 3, none⟩ = some (.int .i64 dd) := cell_of_row _ _ _ _ _ (0, 0) HB1.out.r0
  have c0_4 : w1.cell? ⟨w.heap.size, 4, none⟩ = some (.int .i64 am) := cell_of_row _ _ _ _ _ (0, 0) HB1.out.r0
  have c0_5 : w1.cell? ⟨w.heap.size, 5, none⟩ = some (.int .i64 tk) := cell_of_row _ _ _ _ _ (0, 0) HB1.out.r0
  have c1_0 : w1.cell? ⟨w.heap.size + 1, 0, none⟩ = some (.int .i64 0) := cell_of_row _ _ _ _ _ (0, 0) HB1.out.r1
  have c1_1 : w1.cell? ⟨w.heap.size + 1, 1, none⟩ = some (.int .i64 0) := cell_of_row _ _ _ _ _ (0, 0) HB1.out.r1
  have c1_2 : w1.cell? ⟨w.heap.size + 1, 2, none⟩ = some (.int .i64 0) := cell_of_row _ _ _ _ _ (0, 0) HB1.out.r1
  have c1_3 : w1.cell? ⟨w.heap.size + 1, 3, none⟩ = some (.int .i64 0) := cell_of_row _ _ _ _ _ (0, 0) HB1.out.r1
  have c1_4 : w1.cell? ⟨w.heap.size + 1, 4, none⟩ = some (.int .i64 0) := cell_of_row _ _ _ _ _ (0, 0) HB1.out.r1
  have c1_5 : w1.cell? ⟨w.heap.size + 1, 5, none⟩ = some (.int .i64 0) := cell_of_row _ _ _ _ _ (0, 0) HB1.out.r1
  go_wp2_with (with_reducible show wpList _ _ _ (Oper.mk _ (.store 3 _ _) _ _ _ _ :: _) _ _; refine Hid.out ?_)
  refine Lib.hid ?_
  refine wpList_putCell rfl 3 _ _ rfl (w.heap.size) 2 (.int .i64 (lf - 1)) _ _ 23 rfl rfl HB1.out.r0 (by kernel_rfl) (by simp) rfl rfl rfl ?_
  intro w2 hr2 hg2
  have HB2 : Hid (Bx w [(w.heap.size, .cells #[.int .i64 fl, .int .i64 tg, .int .i64 (lf - 1), .int .i64 dd, .int .i64 am, .int .i64 tk] 23 (0, 0)), (w.heap.size + 1, .cells #[.int .i64 0, .int .i64 0, .int .i64 0, .int .i64 0, .int .i64 0, .int .i64 0] 23 (0, 0))] w2) := Lib.hid (HB1.out.put (by omega) hg2.out hr2.out (by simp only [List.mem_cons, List.not_mem_nil, or_false]; rintro p (rfl | rfl) <;> simp <;> omega))
  clear c0_0 c0_1 c0_2 c0_3 c0_4 c0_5 c1_0 c1_1 c1_2 c1_3 c1_4 c1_5 hr2 hg2 HB1
  have c0_0 : w2.cell? ⟨w.heap.size, 0, none⟩ = some (.int .i64 fl) := cell_of_row _ _ _ _ _ (0, 0) HB2.out.r0
  have c0_1 : w2.cell? ⟨w.heap.size, 1, none⟩ = some (.int .i64 tg) := cell_of_row _ _ _ _ _ (0, 0) HB2.out.r0
  have c0_2 : w2.cell? ⟨w.heap.size, 2, none⟩ = some (.int .i64 (lf - 1)) := cell_of_row _ _ _ _ _ (0, 0) HB2.out.r0
  have c0_3 : w2.cell? ⟨w.heap.size, 3, none⟩ = some (.int .i64 dd) := cell_of_row _ _ _ _ _ (0, 0) HB2.out.r0
  have c0_4 : w2.cell? ⟨w.heap.size, 4, none⟩ = some (.int .i64 am) := cell_of_row _ _ _ _ _ (0, 0) HB2.out.r0
  have c0_5 : w2.cell? ⟨w.heap.size, 5, none⟩ = some (.int .i64 tk) := cell_of_row _ _ _ _ _ (0, 0) HB2.out.r0
  have c1_0 : w2.cell? ⟨w.heap.size + 1, 0, none⟩ = some (.int .i64 0) := cell_of_row _ _ _ _ _ (0, 0) HB2.out.r1
  have c1_1 : w2.cell? ⟨w.heap.size + 1, 1, none⟩ = some (.int .i64 0) := cell_of_row _ _ _ _ _ (0, 0) HB2.out.r1
  have c1_2 : w2.cell? ⟨w.heap.size + 1, 2, none⟩ = some (.int .i64 0) := cell_of_row _ _ _ _ _ (0, 0) HB2.out.r1
  have c1_3 : w2.cell? ⟨w.heap.size + 1, 3, none⟩ = some (.int .i64 0) := cell_of_row _ _ _ _ _ (0, 0) HB2.out.r1
  have c1_4 : w2.cell? ⟨w.heap.size + 1, 4, none⟩ = some (.int .i64 0) := cell_of_row _ _ _ _ _ (0, 0) HB2.out.r1
  have c1_5 : w2.cell? ⟨w.heap.size + 1, 5, none⟩ = some (.int .i64 0) := cell_of_row _ _ _ _ _ (0, 0) HB2.out.r1
  go_wp2_with fail
  refine (FA.out _).mono ?_
  rintro e w3 ⟨rfl, hb3⟩
  have HB3 := Lib.hid (HB2.out.next hb3)
  clear c0_0 c0_1 c0_2 c0_3 c0_4 c0_5 c1_0 c1_1 c1_2 c1_3 c1_4 c1_5 hb3 HB2
  have c0_0 : w3.cell? ⟨w.heap.size, 0, none⟩ = some (.int .i64 fl) := cell_of_row _ _ _ _ _ (0, 0) HB3.out.r0
  have c0_1 : w3.cell? ⟨w.heap.size, 1, none⟩ = some (.int .i64 tg) := cell_of_row _ _ _ _ _ (0, 0) HB3.out.r0
  have c0_2 : w3.cell? ⟨w.heap.size, 2, none⟩ = some (.int .i64 (lf - 1)) := cell_of_row _ _ _ _ _ (0, 0) HB3.out.r0
  have c0_3 : w3.cell? ⟨w.heap.size, 3, none⟩ = some (.int .i64 dd) := cell_of_row _ _ _ _ _ (0, 0) HB3.out.r0
  have c0_4 : w3.cell? ⟨w.heap.size, 4, none⟩ = some (.int .i64 am) := cell_of_row _ _ _ _ _ (0, 0) HB3.out.r0
  have c0_5 : w3.cell? ⟨w.heap.size, 5, none⟩ = some (.int .i64 tk) := cell_of_row _ _ _ _ _ (0, 0) HB3.out.r0
  have c1_0 : w3.cell? ⟨w.heap.size + 1, 0, none⟩ = some (.int .i64 0) := cell_of_row _ _ _ _ _ (0, 0) HB3.out.r1
  have c1_1 : w3.cell? ⟨w.heap.size + 1, 1, none⟩ = some (.int .i64 0) := cell_of_row _ _ _ _ _ (0, 0) HB3.out.r1
  have c1_2 : w3.cell? ⟨w.heap.size + 1, 2, none⟩ = some (.int .i64 0) := cell_of_row _ _ _ _ _ (0, 0) HB3.out.r1
  have c1_3 : w3.cell? ⟨w.heap.size + 1, 3, none⟩ = some (.int .i64 0) := cell_of_row _ _ _ _ _ (0, 0) HB3.out.r1
  have c1_4 : w3.cell? ⟨w.heap.size + 1, 4, none⟩ = some (.int .i64 0) := cell_of_row _ _ _ _ _ (0, 0) HB3.out.r1
  have c1_5 : w3.cell? ⟨w.heap.size + 1, 5, none⟩ = some (.int .i64 0) := cell_of_row _ _ _ _ _ (0, 0) HB3.out.r1
  go_wp2_with (with_reducible show wpList _ _ _ (Oper.mk _ (.store 23 _ _) _ _ _ _ :: _) _ _; refine Hid.out ?_)
  refine Lib.hid ?_
  refine wpList_put rfl 23 _ _ rfl (w.heap.size + 1) #[.int .i64 a1, .int .i64 a2, .int .i64 a3, .int .i64 a4, .int .i64 a5, .int .i64 a6] _ 23 rfl rfl HB3.out.r1 (by kernel_rfl) rfl (by kernel_rfl) ?_
  intro w4 hr4 hg4
  have HB4 : Hid (Bx w [(w.heap.size, .cells #[.int .i64 fl, .int .i64 tg, .int .i64 (lf - 1), .int .i64 dd, .int .i64 am, .int .i64 tk] 23 (0, 0)), (w.heap.size + 1, .cells #[.int .i64 a1, .int .i64 a2, .int .i64 a3, .int .i64 a4, .int .i64 a5, .int .i64 a6] 23 (0, 0))] w4) := Lib.hid (HB3.out.put (by omega) hg4.out hr4.out (by simp only [List.mem_cons, List.not_mem_nil, or_false]; rintro p (rfl | rfl) <;> simp <;> omega))
  clear c0_0 c0_1 c0_2 c0_3 c0_4 c0_5 c1_0 c1_1 c1_2 c1_3 c1_4 c1_5 hr4 hg4 HB3
  go_wp2_with fail
  exact bodyPost_ret (results_cell_row Try.results21 _ _ _ _ _ (0, 0) _ rfl (HB4.out.r1) Try.underlying23 rfl (by kernel_rfl)) rfl (⟨rfl, HB4.out.below⟩)
set_option maxHeartbeats 8000000 in
theorem playS_up (F : Int) (r : Rg) (t u T : Int) (w : World) (h : Rg.Ok F r) (hu : (if 10000 < t then (10000 : Int) else t) = u) (hT : (if 1 < u then u else 1) = T) (hT1 : 1 ≤ T ∧ T ≤ 10000) (hl : r.lf = 0) (hd : r.dd = 2) (hin : 0 ≤ r.fl + 1 ∧ r.fl + 1 ≤ F - 1) :
    Calls Try.prog 21 #[.int .i64 F, r.agg, .int .i64 1, .int .i64 t] w fun ee w' => ee = .returned ((Rg.stepF F r 1 T).agg) ∧ Below w.heap.size w w' := by
  have FI := Lib.hid (fun wx => playIs_any F r wx)
  rw [Rg.isB_iff.2 h] at FI
  have FA := Lib.hid (fun q wx => playArr_any q wx)
  have hst : Rg.stepF F r 1 T = Rg.arr ⟨r.fl, r.fl + 1, T - 1, r.dd, r.am, r.tk⟩ := by
    unfold Rg.stepF
    rw [if_neg (by omega), if_pos ⟨hd, by show r.fl + 1 ≠ r.fl; omega, hin⟩]; rfl
  rw [hst]
  have FA := Lib.hid (FA.out ⟨r.fl, r.fl + 1, T - 1, r.dd, r.am, r.tk⟩)
  have hF := h.fs
  have hfl := h.fl
  generalize Rg.arr ⟨r.fl, r.fl + 1, T - 1, r.dd, r.am, r.tk⟩ = v at *
  clear hst h
  obtain ⟨fl, tg, lf, dd, am, tk⟩ := r
  simp only at hl hd hin FA hfl
  subst hl hd
  obtain ⟨a1, a2, a3, a4, a5, a6⟩ := v
  simp only [Rg.agg] at *
  have FN := Lib.hid (fun wx => playIn_any (fl + 1) 0 (F - 1) wx)
  rw [Nc.wi_iff.2 hin] at FN
  have hw1 : IntKind.i64.wrap (F - 1) = F - 1 := by rw [IntKind.wrap_i64]; omega
  have hw2 : IntKind.i64.wrap (T - 1) = T - 1 := by rw [IntKind.wrap_i64]; omega
  have hw3 : IntKind.i64.wrap (fl + 1) = fl + 1 := by rw [IntKind.wrap_i64]; omega
  have hne : ((fl + 1) != fl) = true := by simp only [bne_iff_ne, ne_eq]; omega
  clear hF hin hfl hT1
  have HB0 := Lib.hid (bxs2 w (.cells #[.int .i64 fl, .int .i64 tg, .int .i64 0, .int .i64 2, .int .i64 am, .int .i64 tk] 23) (.cells #[.int .i64 0, .int .i64 0, .int .i64 0, .int .i64 0, .int .i64 0, .int .i64 0] 23))
  go_enter Try.func21, Try.ntmps21
  go_wp2_with fail
  refine (FI.out _).mono ?_
  rintro e w1 ⟨rfl, hb1⟩
  have HB1 := Lib.hid (HB0.out.next hb1)
  clear hb1 HB0
  have c0_0 : w1.cell? ⟨w.heap.size, 0, none⟩ = some (.int .i64 fl) := cell_of_row _ _ _ _ _ (0, 0) HB1.out.r0
  have c0_1 : w1.cell? ⟨w.heap.size, 1, none⟩ = some (.int .i64 tg) := cell_of_row _ _ _ _ _ (0, 0) HB1.out.r0
  have c0_2 : w1.cell? ⟨w.heap.size, 2, none⟩ = some (.int .i64 0) := cell_of_row _ _ _ _ _ (0, 0) HB1.out.r0
  have c0_3 : w1.cell? ⟨w.heap.size, 3, none⟩ = some (.int .i64 2) := cell_of_row _ _ _ _ _ (0, 0) HB1.out.r0
  have c0_4 : w1.cell? ⟨w.heap.size, 4, none⟩ = some (.int .i64 am) := cell_of_row _ _ _ _ _ (0, 0) HB1.out.r0
  have c0_5 : w1.cell? ⟨w.heap.size, 5, none⟩ = some (.int .i64 tk) := cell_of_row _ _ _ _ _ (0, 0) HB1.out.r0
  have c1_0 : w1.cell? ⟨w.heap.size + 1, 0, none⟩ = some (.int .i64 0) := cell_of_row _ _ _ _ _ (0, 0) HB1.out.r1
  have c1_1 : w1.cell? ⟨w.heap.size + 1, 1, none⟩ = some (.int .i64 0) := cell_of_row _ _ _ _ _ (0, 0) HB1.out.r1
  have c1_2 : w1.cell? ⟨w.heap.size + 1, 2, none⟩ = some (.int .i64 0) := cell_of_row _ _ _ _ _ (0, 0) HB1.out.r1
  have c1_3 : w1.cell? ⟨w.heap.size + 1, 3, none⟩ = some (.int .i64 0) := cell_of_row _ _ _ _ _ (0, 0) HB1.out.r1
  have c1_4 : w1.cell? ⟨w.heap.size + 1, 4, none⟩ = some (.int .i64 0) := cell_of_row _ _ _ _ _ (0, 0) HB1.out.r1
  have c1_5 : w1.cell? ⟨w.heap.size + 1, 5, none⟩ = some (.int .i64 0) := cell_of_row _ _ _ _ _ (0, 0) HB1.out.r1
  go_wp2_with fail
  refine (FN.out _).mono ?_
  rintro e w2 ⟨rfl, hb2⟩
  have HB2 := Lib.hid (HB1.out.next hb2)
  clear c0_0 c0_1 c0_2 c0_3 c0_4 c0_5 c1_0 c1_1 c1_2 c1_3 c1_4 c1_5 hb2 HB1
  have c0_0 : w2.cell? ⟨w.heap.size, 0, none⟩ = some (.int .i64 fl) := cell_of_row _ _ _ _ _ (0, 0) HB2.out.r0
  have c0_1 : w2.cell? ⟨w.heap.size, 1, none⟩ = some (.int .i64 tg) := cell_of_row _ _ _ _ _ (0, 0) HB2.out.r0
  have c0_2 : w2.cell? ⟨w.heap.size, 2, none⟩ = some (.int .i64 0) := cell_of_row _ _ _ _ _ (0, 0) HB2.out.r0
  have c0_3 : w2.cell? ⟨w.heap.size, 3, none⟩ = some (.int .i64 2) := cell_of_row _ _ _ _ _ (0, 0) HB2.out.r0
  have c0_4 : w2.cell? ⟨w.heap.size, 4, none⟩ = some (.int .i64 am) := cell_of_row _ _ _ _ _ (0, 0) HB2.out.r0
  have c0_5 : w2.cell? ⟨w.heap.size, 5, none⟩ = some (.int .i64 tk) := cell_of_row _ _ _ _ _ (0, 0) HB2.out.r0
  have c1_0 : w2.cell? ⟨w.heap.size + 1, 0, none⟩ = some (.int .i64 0) := cell_of_row _ _ _ _ _ (0, 0) HB2.out.r1
  have c1_1 : w2.cell? ⟨w.heap.size + 1, 1, none⟩ = some (.int .i64 0) := cell_of_row _ _ _ _ _ (0, 0) HB2.out.r1
  have c1_2 : w2.cell? ⟨w.heap.size + 1, 2, none⟩ = some (.int .i64 0) := cell_of_row _ _ _ _ _ (0, 0) HB2.out.r1
  have c1_3 : w2.cell? ⟨w.heap.size + 1, 3, none⟩ = some (.int .i64 0) := cell_of_row _ _ _ _ _ (0, 0) HB2.out.r1
  have c1_4 : w2.cell? ⟨w.heap.size + 1, 4, none⟩ = some (.int .i64 0) := cell_of_row _ _ _ _ _ (0, 0) HB2.out.r1
  have c1_5 : w2.cell? ⟨w.heap.size + 1, 5, none⟩ = some (.int .i64 0) := cell_of_row _ _ _ _ _ (0, 0) HB2.out.r1
  go_wp2_with (with_reducible show wpList _ _ _ (Oper.mk _ (.store 3 _ _) _ _ _ _ :: _) _ _; refine Hid.out ?_)
  refine Lib.hid ?_
  refine wpList_putCell rfl 3 _ _ rfl (w.heap.size) 1 (.int .i64 (fl + 1)) _ _ 23 rfl rfl HB2.out.r0 (by kernel_rfl) (by simp) rfl rfl rfl ?_
  intro w3 hr3 hg3
  have HB3 : Hid (Bx w [(w.heap.size, .cells #[.int .i64 fl, .int .i64 (fl + 1), .int .i64 0, .int .i64 2, .int .i64 am, .int .i64 tk] 23 (0, 0)), (w.heap.size + 1, .cells #[.int .i64 0, .int .i64 0, .int .i64 0, .int .i64 0, .int .i64 0, .int .i64 0] 23 (0, 0))] w3) := Lib.hid (HB2.out.put (by omega) hg3.out hr3.out (by simp only [List.mem_cons, List.not_mem_nil, or_false]; rintro p (rfl | rfl) <;> simp <;> omega))
  clear c0_0 c0_1 c0_2 c0_3 c0_4 c0_5 c1_0 c1_1 c1_2 c1_3 c1_4 c1_5 hr3 hg3 HB2
  have c0_0 : w3.cell? ⟨w.heap.size, 0, none⟩ = some (.int .i64 fl) := cell_of_row _ _ _ _ _ (0, 0) HB3.out.r0
  have c0_1 : w3.cell? ⟨w.heap.size, 1, none⟩ = some (.int .i64 (fl + 1)) := cell_of_row _ _ _ _ _ (0, 0) HB3.out.r0
  have c0_2 : w3.cell? ⟨w.heap.size, 2, none⟩ = some (.int .i64 0) := cell_of_row _ _ _ _ _ (0, 0) HB3.out.r0
  have c0_3 : w3.cell? ⟨w.heap.size, 3, none⟩ = some (.int .i64 2) := cell_of_row _ _ _ _ _ (0, 0) HB3.out.r0
  have c0_4 : w3.cell? ⟨w.heap.size, 4, none⟩ = some (.int .i64 am) := cell_of_row _ _ _ _ _ (0, 0) HB3.out.r0
  have c0_5 : w3.cell? ⟨w.heap.size, 5, none⟩ = some (.int .i64 tk) := cell_of_row _ _ _ _ _ (0, 0) HB3.out.r0
  have c1_0 : w3.cell? ⟨w.heap.size + 1, 0, none⟩ = some (.int .i64 0) := cell_of_row _ _ _ _ _ (0, 0) HB3.out.r1
  have c1_1 : w3.cell? ⟨w.heap.size + 1, 1, none⟩ = some (.int .i64 0) := cell_of_row _ _ _ _ _ (0, 0) HB3.out.r1
  have c1_2 : w3.cell? ⟨w.heap.size + 1, 2, none⟩ = some (.int .i64 0) := cell_of_row _ _ _ _ _ (0, 0) HB3.out.r1
  have c1_3 : w3.cell? ⟨w.heap.size + 1, 3, none⟩ = some (.int .i64 0) := cell_of_row _ _ _ _ _ (0, 0) HB3.out.r1
  have c1_4 : w3.cell? ⟨w.heap.size + 1, 4, none⟩ = some (.int .i64 0) := cell_of_row _ _ _ _ _ (0, 0) HB3.out.r1
  have c1_5 : w3.cell? ⟨w.heap.size + 1, 5, none⟩ = some (.int .i64 0) := cell_of_row _ _ _ _ _ (0, 0) HB3.out.r1
  go_wp2_with (with_reducible show wpList _ _ _ (Oper.mk _ (.store 3 _ _) _ _ _ _ :: _) _ _; refine Hid.out ?_)
  refine Lib.hid ?_
  refine wpList_putCell rfl 3 _ _ rfl (w.heap.size) 2 (.int .i64 (T - 1)) _ _ 23 rfl rfl HB3.out.r0 (by kernel_rfl) (by simp) rfl rfl rfl ?_
  intro w4 hr4 hg4
  have HB4 : Hid (Bx w [(w.heap.size, .cells #[.int .i64 fl, .int .i64 (fl + 1), .int .i64 (T - 1), .int .i64 2, .int .i64 am, .int .i64 tk] 23 (0, 0)), (w.heap.size + 1, .cells #[.int .i64 0, .int .i64 0, .int .i64 0, .int .i64 0, .int .i64 0, .int .i64 0] 23 (0, 0))] w4) := Lib.hid (HB3.out.put (by omega) hg4.out hr4.out (by simp only [List.mem_cons, List.not_mem_nil, or_false]; rintro p (rfl | rfl) <;> simp <;> omega))
  clear c0_0 c0_1 c0_2 c0_3 c0_4 c0_5 c1_0 c1_1 c1_2 c1_3 c1_4 c1_5 hr4 hg4 HB3
  have c0_0 : w4.cell? ⟨w.heap.size, 0, none⟩ = some (.int .i64 fl) := cell_of_row _ _ _ _ _ (0, 0) HB4.out.r0
  have c0_1 : w4.cell? ⟨w.heap.size, 1, none⟩ = some (.int .i64 (fl + 1)) := cell_of_row _ _ _ _ _ (0, 0) HB4.out.r0
  have c0_2 : w4.cell? ⟨w.heap.size, 2, none⟩ = some (.int .i64 (T - 1)) := cell_of_row _ _ _ _ _ (0, 0) HB4.out.r0
  have c0_3 : w4.cell? ⟨w.heap.size, 3, none⟩ = some (.int .i64 2) := cell_of_row _ _ _ _ _ (0, 0) HB4.out.r0
  have c0_4 : w4.cell? ⟨w.heap.size, 4, none⟩ = some (.int .i64 am) := cell_of_row _ _ _ _ _ (0, 0) HB4.out.r0
  have c0_5 : w4.cell? ⟨w.heap.size, 5, none⟩ = some (.int .i64 tk) := cell_of_row _ _ _ _ _ (0, 0) HB4.out.r0
  have c1_0 : w4.cell? ⟨w.heap.size + 1, 0, none⟩ = some (.int .i64 0) := cell_of_row _ _ _ _ _ (0, 0) HB4.out.r1
  have c1_1 : w4.cell? ⟨w.heap.size + 1, 1, none⟩ = some (.int .i64 0) := cell_of_row _ _ _ _ _ (0, 0) HB4.out.r1
  have c1_2 : w4.cell? ⟨w.heap.size + 1, 2, none⟩ = some (.int .i64 0) := cell_of_row _ _ _ _ _ (0, 0) HB4.out.r1
  have c1_3 : w4.cell? ⟨w.heap.size + 1, 3, none⟩ = some (.int .i64 0) := cell_of_row _ _ _ _ _ (0, 0) HB4.out.r1
  have c1_4 : w4.cell? ⟨w.heap.size + 1, 4, none⟩ = some (.int .i64 0) := cell_of_row _ _ _ _ _ (0, 0) HB4.out.r1
  have c1_5 : w4.cell? ⟨w.heap.size + 1, 5, none⟩ = some (.int .i64 0) := cell_of_row _ _ _ _ _ (0, 0) HB4.out.r1
  go_wp2_with fail
  refine (FA.out _).mono ?_
  rintro e w5 ⟨rfl, hb5⟩
  have HB5 := Lib.hid (HB4.out.next hb5)
  clear c0_0 c0_1 c0_2 c0_3 c0_4 c0_5 c1_0 c1_1 c1_2 c1_3 c1_4 c1_5 hb5 HB4
  have c0_0 : w5.cell? ⟨w.heap.size, 0, none⟩ = some (.int .i64 fl) := cell_of_row _ _ _ _ _ (0, 0) HB5.out.r0
  have c0_1 : w5.cell? ⟨w.heap.size, 1, none⟩ = some (.int .i64 (fl + 1)) := cell_of_row _ _ _ _ _ (0, 0) HB5.out.r0
  have c0_2 : w5.cell? ⟨w.heap.size, 2, none⟩ = some (.int .i64 (T - 1)) := cell_of_row _ _ _ _ _ (0, 0) HB5.out.r0
  have c0_3 : w5.cell? ⟨w.heap.size, 3, none⟩ = some (.int .i64 2) := cell_of_row _ _ _ _ _ (0, 0) HB5.out.r0
  have c0_4 : w5.cell? ⟨w.heap.size, 4, none⟩ = some (.int .i64 am) := cell_of_row _ _ _ _ _ (0, 0) HB5.out.r0
  have c0_5 : w5.cell? ⟨w.heap.size, 5, none⟩ = some (.int .i64 tk) := cell_of_row _ _ _ _ _ (0, 0) HB5.out.r0
  have c1_0 : w5.cell? ⟨w.heap.size + 1, 0, none⟩ = some (.int .i64 0) := cell_of_row _ _ _ _ _ (0, 0) HB5.out.r1
  have c1_1 : w5.cell? ⟨w.heap.size + 1, 1, none⟩ = some (.int .i64 0) := cell_of_row _ _ _ _ _ (0, 0) HB5.out.r1
  have c1_2 : w5.cell? ⟨w.heap.size + 1, 2, none⟩ = some (.int .i64 0) := cell_of_row _ _ _ _ _ (0, 0) HB5.out.r1
  have c1_3 : w5.cell? ⟨w.heap.size + 1, 3, none⟩ = some (.int .i64 0) := cell_of_row _ _ _ _ _ (0, 0) HB5.out.r1
  have c1_4 : w5.cell? ⟨w.heap.size + 1, 4, none⟩ = some (.int .i64 0) := cell_of_row _ _ _ _ _ (0, 0) HB5.out.r1
  have c1_5 : w5.cell? ⟨w.heap.size + 1, 5, none⟩ = some (.int .i64 0) := cell_of_row _ _ _ _ _ (0, 0) HB5.out.r1
  go_wp2_with (with_reducible show wpList _ _ _ (Oper.mk _ (.store 23 _ _) _ _ _ _ :: _) _ _; refine Hid.out ?_)
  refine Lib.hid ?_
  refine wpList_put rfl 23 _ _ rfl (w.heap.size + 1) #[.int .i64 a1, .int .i64 a2, .int .i64 a3, .int .i64 a4, .int .i64 a5, .int .i64 a6] _ 23 rfl rfl HB5.out.r1 (by kernel_rfl) rfl (by kernel_rfl) ?_
  intro w6 hr6 hg6
  have HB6 : Hid (Bx w [(w.heap.size, .cells #[.int .i64 fl, .int .i64 (fl + 1), .int .i64 (T - 1), .int .i64 2, .int .i64 am, .int .i64 tk] 23 (0, 0)), (w.heap.size + 1, .cells #[.int .i64 a1, .int .i64 a2, .int .i64 a3, .int .i64 a4, .int .i64 a5, .int .i64 a6] 23 (0, 0))] w6) := Lib.hid (HB5.out.put (by omega) hg6.out hr6.out (by simp only [List.mem_cons, List.not_mem_nil, or_false]; rintro p (rfl | rfl) <;> simp <;> omega))
  clear c0_0 c0_1 c0_2 c0_3 c0_4 c0_5 c1_0 c1_1 c1_2 c1_3 c1_4 c1_5 hr6 hg6 HB5
  go_wp2_with fail
  exact bodyPost_ret (results_cell_row Try.results21 _ _ _ _ _ (0, 0) _ rfl (HB6.out.r1) Try.underlying23 rfl (by kernel_rfl)) rfl (⟨rfl, HB6.out.below⟩)
set_option maxHeartbeats 8000000 in
theorem playS_dn (F : Int) (r : Rg) (t u T : Int) (w : World) (h : Rg.Ok F r) (hu : (if 10000 < t then (10000 : Int) else t) = u) (hT : (if 1 < u then u else 1) = T) (hT1 : 1 ≤ T ∧ T ≤ 10000) (hl : r.lf = 0) (hd : r.dd = 2) (hin : 0 ≤ r.fl - 1 ∧ r.fl - 1 ≤ F - 1) :
    Calls Try.prog 21 #[.int .i64 F, r.agg, .int .i64 2, .int .i64 t] w fun ee w' => ee = .returned ((Rg.stepF F r 2 T).agg) ∧ Below w.heap.size w w' := by
  have FI := Lib.hid (fun wx => playIs_any F r wx)
  rw [Rg.isB_iff.2 h] at FI
  have FA := Lib.hid (fun q wx => playArr_any q wx)
  have hst : Rg.stepF F r 2 T = Rg.arr ⟨r.fl, r.fl - 1, T - 1, r.dd, r.am, r.tk⟩ := by
    unfold Rg.stepF
    rw [if_neg (by omega), if_pos ⟨hd, by show r.fl - 1 ≠ r.fl; omega, hin⟩]; rfl
  rw [hst]
  have FA := Lib.hid (FA.out ⟨r.fl, r.fl - 1, T - 1, r.dd, r.am, r.tk⟩)
  have hF := h.fs
  have hfl := h.fl
  generalize Rg.arr ⟨r.fl, r.fl - 1, T - 1, r.dd, r.am, r.tk⟩ = v at *
  clear hst h
  obtain ⟨fl, tg, lf, dd, am, tk⟩ := r
  simp only at hl hd hin FA hfl
  subst hl hd
  obtain ⟨a1, a2, a3, a4, a5, a6⟩ := v
  simp only [Rg.agg] at *
  have FN := Lib.hid (fun wx => playIn_any (fl - 1) 0 (F - 1) wx)
  rw [Nc.wi_iff.2 hin] at FN
  have hw1 : IntKind.i64.wrap (F - 1) = F - 1 := by rw [IntKind.wrap_i64]; omega
  have hw2 : IntKind.i64.wrap (T - 1) = T - 1 := by rw [IntKind.wrap_i64]; omega
  have hw3 : IntKind.i64.wrap (fl - 1) = fl - 1 := by rw [IntKind.wrap_i64]; omega
  have hne : ((fl - 1) != fl) = true := by simp only [bne_iff_ne, ne_eq]; omega
  clear hF hin hfl hT1
  have HB0 := Lib.hid (bxs2 w (.cells #[.int .i64 fl, .int .i64 tg, .int .i64 0, .int .i64 2, .int .i64 am, .int .i64 tk] 23) (.cells #[.int .i64 0, .int .i64 0, .int .i64 0, .int .i64 0, .int .i64 0, .int .i64 0] 23))
  go_enter Try.func21, Try.ntmps21
  go_wp2_with fail
  refine (FI.out _).mono ?_
  rintro e w1 ⟨rfl, hb1⟩
  have HB1 := Lib.hid (HB0.out.next hb1)
  clear hb1 HB0
  have c0_0 : w1.cell? ⟨w.heap.size, 0, none⟩ = some (.int .i64 fl) := cell_of_row _ _ _ _ _ (0, 0) HB1.out.r0
  have c0_1 : w1.cell? ⟨w.heap.size, 1, none⟩ = some (.int .i64 tg) := cell_of_row _ _ _ _ _ (0, 0) HB1.out.r0
  have c0_2 : w1.cell? ⟨w.heap.size, 2, none⟩ = some (.int .i64 0) := cell_of_row _ _ _ _ _ (0, 0) HB1.out.r0
  have c0_3 : w1.cell? ⟨w.heap.size, 3, none⟩ = some (.int .i64 2) := cell_of_row _ _ _ _ _ (0, 0) HB1.out.r0
  have c0_4 : w1.cell? ⟨w.heap.size, 4, none⟩ = some (.int .i64 am) := cell_of_row _ _ _ _ _ (0, 0) HB1.out.r0
  have c0_5 : w1.cell? ⟨w.heap.size, 5, none⟩ = some (.int .i64 tk) := cell_of_row _ _ _ _ _ (0, 0) HB1.out.r0
  have c1_0 : w1.cell? ⟨w.heap.size + 1, 0, none⟩ = some (.int .i64 0) := cell_of_row _ _ _ _ _ (0, 0) HB1.out.r1
  have c1_1 : w1.cell? ⟨w.heap.size + 1, 1, none⟩ = some (.int .i64 0) := cell_of_row _ _ _ _ _ (0, 0) HB1.out.r1
  have c1_2 : w1.cell? ⟨w.heap.size + 1, 2, none⟩ = some (.int .i64 0) := cell_of_row _ _ _ _ _ (0, 0) HB1.out.r1
  have c1_3 : w1.cell? ⟨w.heap.size + 1, 3, none⟩ = some (.int .i64 0) := cell_of_row _ _ _ _ _ (0, 0) HB1.out.r1
  have c1_4 : w1.cell? ⟨w.heap.size + 1, 4, none⟩ = some (.int .i64 0) := cell_of_row _ _ _ _ _ (0, 0) HB1.out.r1
  have c1_5 : w1.cell? ⟨w.heap.size + 1, 5, none⟩ = some (.int .i64 0) := cell_of_row _ _ _ _ _ (0, 0) HB1.out.r1
  go_wp2_with fail
  refine (FN.out _).mono ?_
  rintro e w2 ⟨rfl, hb2⟩
  have HB2 := Lib.hid (HB1.out.next hb2)
  clear c0_0 c0_1 c0_2 c0_3 c0_4 c0_5 c1_0 c1_1 c1_2 c1_3 c1_4 c1_5 hb2 HB1
  have c0_0 : w2.cell? ⟨w.heap.size, 0, none⟩ = some (.int .i64 fl) := cell_of_row _ _ _ _ _ (0, 0) HB2.out.r0
  have c0_1 : w2.cell? ⟨w.heap.size, 1, none⟩ = some (.int .i64 tg) := cell_of_row _ _ _ _ _ (0, 0) HB2.out.r0
  have c0_2 : w2.cell? ⟨w.heap.size, 2, none⟩ = some (.int .i64 0) := cell_of_row _ _ _ _ _ (0, 0) HB2.out.r0
  have c0_3 : w2.cell? ⟨w.heap.size, 3, none⟩ = some (.int .i64 2) := cell_of_row _ _ _ _ _ (0, 0) HB2.out.r0
  have c0_4 : w2.cell? ⟨w.heap.size, 4, none⟩ = some (.int .i64 am) := cell_of_row _ _ _ _ _ (0, 0) HB2.out.r0
  have c0_5 : w2.cell? ⟨w.heap.size, 5, none⟩ = some (.int .i64 tk) := cell_of_row _ _ _ _ _ (0, 0) HB2.out.r0
  have c1_0 : w2.cell? ⟨w.heap.size + 1, 0, none⟩ = some (.int .i64 0) := cell_of_row _ _ _ _ _ (0, 0) HB2.out.r1
  have c1_1 : w2.cell? ⟨w.heap.size + 1, 1, none⟩ = some (.int .i64 0) := cell_of_row _ _ _ _ _ (0, 0) HB2.out.r1
  have c1_2 : w2.cell? ⟨w.heap.size + 1, 2, none⟩ = some (.int .i64 0) := cell_of_row _ _ _ _ _ (0, 0) HB2.out.r1
  have c1_3 : w2.cell? ⟨w.heap.size + 1, 3, none⟩ = some (.int .i64 0) := cell_of_row _ _ _ _ _ (0, 0) HB2.out.r1
  have c1_4 : w2.cell? ⟨w.heap.size + 1, 4, none⟩ = some (.int .i64 0) := cell_of_row _ _ _ _ _ (0, 0) HB2.out.r1
  have c1_5 : w2.cell? ⟨w.heap.size + 1, 5, none⟩ = some (.int .i64 0) := cell_of_row _ _ _ _ _ (0, 0) HB2.out.r1
  go_wp2_with (with_reducible show wpList _ _ _ (Oper.mk _ (.store 3 _ _) _ _ _ _ :: _) _ _; refine Hid.out ?_)
  refine Lib.hid ?_
  refine wpList_putCell rfl 3 _ _ rfl (w.heap.size) 1 (.int .i64 (fl - 1)) _ _ 23 rfl rfl HB2.out.r0 (by kernel_rfl) (by simp) rfl rfl rfl ?_
  intro w3 hr3 hg3
  have HB3 : Hid (Bx w [(w.heap.size, .cells #[.int .i64 fl, .int .i64 (fl - 1), .int .i64 0, .int .i64 2, .int .i64 am, .int .i64 tk] 23 (0, 0)), (w.heap.size + 1, .cells #[.int .i64 0, .int .i64 0, .int .i64 0, .int .i64 0, .int .i64 0, .int .i64 0] 23 (0, 0))] w3) := Lib.hid (HB2.out.put (by omega) hg3.out hr3.out (by simp only [List.mem_cons, List.not_mem_nil, or_false]; rintro p (rfl | rfl) <;> simp <;> omega))
  clear c0_0 c0_1 c0_2 c0_3 c0_4 c0_5 c1_0 c1_1 c1_2 c1_3 c1_4 c1_5 hr3 hg3 HB2
  have c0_0 : w3.cell? ⟨w.heap.size, 0, none⟩ = some (.int .i64 fl) := cell_of_row _ _ _ _ _ (0, 0) HB3.out.r0
  have c0_1 : w3.cell? ⟨w.heap.size, 1, none⟩ = some (.int .i64 (fl - 1)) := cell_of_row _ _ _ _ _ (0, 0) HB3.out.r0
  have c0_2 : w3.cell? ⟨w.heap.size, 2, none⟩ = some (.int .i64 0) := cell_of_row _ _ _ _ _ (0, 0) HB3.out.r0
  have c0_3 : w3.cell? ⟨w.heap.size, 3, none⟩ = some (.int .i64 2) := cell_of_row _ _ _ _ _ (0, 0) HB3.out.r0
  have c0_4 : w3.cell? ⟨w.heap.size, 4, none⟩ = some (.int .i64 am) := cell_of_row _ _ _ _ _ (0, 0) HB3.out.r0
  have c0_5 : w3.cell? ⟨w.heap.size, 5, none⟩ = some (.int .i64 tk) := cell_of_row _ _ _ _ _ (0, 0) HB3.out.r0
  have c1_0 : w3.cell? ⟨w.heap.size + 1, 0, none⟩ = some (.int .i64 0) := cell_of_row _ _ _ _ _ (0, 0) HB3.out.r1
  have c1_1 : w3.cell? ⟨w.heap.size + 1, 1, none⟩ = some (.int .i64 0) := cell_of_row _ _ _ _ _ (0, 0) HB3.out.r1
  have c1_2 : w3.cell? ⟨w.heap.size + 1, 2, none⟩ = some (.int .i64 0) := cell_of_row _ _ _ _ _ (0, 0) HB3.out.r1
  have c1_3 : w3.cell? ⟨w.heap.size + 1, 3, none⟩ = some (.int .i64 0) := cell_of_row _ _ _ _ _ (0, 0) HB3.out.r1
  have c1_4 : w3.cell? ⟨w.heap.size + 1, 4, none⟩ = some (.int .i64 0) := cell_of_row _ _ _ _ _ (0, 0) HB3.out.r1
  have c1_5 : w3.cell? ⟨w.heap.size + 1, 5, none⟩ = some (.int .i64 0) := cell_of_row _ _ _ _ _ (0, 0) HB3.out.r1
  go_wp2_with (with_reducible show wpList _ _ _ (Oper.mk _ (.store 3 _ _) _ _ _ _ :: _) _ _; refine Hid.out ?_)
  refine Lib.hid ?_
  refine wpList_putCell rfl 3 _ _ rfl (w.heap.size) 2 (.int .i64 (T - 1)) _ _ 23 rfl rfl HB3.out.r0 (by kernel_rfl) (by simp) rfl rfl rfl ?_
  intro w4 hr4 hg4
  have HB4 : Hid (Bx w [(w.heap.size, .cells #[.int .i64 fl, .int .i64 (fl - 1), .int .i64 (T - 1), .int .i64 2, .int .i64 am, .int .i64 tk] 23 (0, 0)), (w.heap.size + 1, .cells #[.int .i64 0, .int .i64 0, .int .i64 0, .int .i64 0, .int .i64 0, .int .i64 0] 23 (0, 0))] w4) := Lib.hid (HB3.out.put (by omega) hg4.out hr4.out (by simp only [List.mem_cons, List.not_mem_nil, or_false]; rintro p (rfl | rfl) <;> simp <;> omega))
  clear c0_0 c0_1 c0_2 c0_3 c0_4 c0_5 c1_0 c1_1 c1_2 c1_3 c1_4 c1_5 hr4 hg4 HB3
  have c0_0 : w4.cell? ⟨w.heap.size, 0, none⟩ = some (.int .i64 fl) := cell_of_row _ _ _ _ _ (0, 0) HB4.out.r0
  have c0_1 : w4.cell? ⟨w.heap.size, 1, none⟩ = some (.int .i64 (fl - 1)) := cell_of_row _ _ _ _ _ (0, 0) HB4.out.r0
  have c0_2 : w4.cell? ⟨w.heap.size, 2, none⟩ = some (.int .i64 (T - 1)) := cell_of_row _ _ _ _ _ (0, 0) HB4.out.r0
  have c0_3 : w4.cell? ⟨w.heap.size, 3, none⟩ = some (.int .i64 2) := cell_of_row _ _ _ _ _ (0, 0) HB4.out.r0
  have c0_4 : w4.cell? ⟨w.heap.size, 4, none⟩ = some (.int .i64 am) := cell_of_row _ _ _ _ _ (0, 0) HB4.out.r0
  have c0_5 : w4.cell? ⟨w.heap.size, 5, none⟩ = some (.int .i64 tk) := cell_of_row _ _ _ _ _ (0, 0) HB4.out.r0
  have c1_0 : w4.cell? ⟨w.heap.size + 1, 0, none⟩ = some (.int .i64 0) := cell_of_row _ _ _ _ _ (0, 0) HB4.out.r1
  have c1_1 : w4.cell? ⟨w.heap.size + 1, 1, none⟩ = some (.int .i64 0) := cell_of_row _ _ _ _ _ (0, 0) HB4.out.r1
  have c1_2 : w4.cell? ⟨w.heap.size + 1, 2, none⟩ = some (.int .i64 0) := cell_of_row _ _ _ _ _ (0, 0) HB4.out.r1
  have c1_3 : w4.cell? ⟨w.heap.size + 1, 3, none⟩ = some (.int .i64 0) := cell_of_row _ _ _ _ _ (0, 0) HB4.out.r1
  have c1_4 : w4.cell? ⟨w.heap.size + 1, 4, none⟩ = some (.int .i64 0) := cell_of_row _ _ _ _ _ (0, 0) HB4.out.r1
  have c1_5 : w4.cell? ⟨w.heap.size + 1, 5, none⟩ = some (.int .i64 0) := cell_of_row _ _ _ _ _ (0, 0) HB4.out.r1
  go_wp2_with fail
  refine (FA.out _).mono ?_
  rintro e w5 ⟨rfl, hb5⟩
  have HB5 := Lib.hid (HB4.out.next hb5)
  clear c0_0 c0_1 c0_2 c0_3 c0_4 c0_5 c1_0 c1_1 c1_2 c1_3 c1_4 c1_5 hb5 HB4
  have c0_0 : w5.cell? ⟨w.heap.size, 0, none⟩ = some (.int .i64 fl) := cell_of_row _ _ _ _ _ (0, 0) HB5.out.r0
  have c0_1 : w5.cell? ⟨w.heap.size, 1, none⟩ = some (.int .i64 (fl - 1)) := cell_of_row _ _ _ _ _ (0, 0) HB5.out.r0
  have c0_2 : w5.cell? ⟨w.heap.size, 2, none⟩ = some (.int .i64 (T - 1)) := cell_of_row _ _ _ _ _ (0, 0) HB5.out.r0
  have c0_3 : w5.cell? ⟨w.heap.size, 3, none⟩ = some (.int .i64 2) := cell_of_row _ _ _ _ _ (0, 0) HB5.out.r0
  have c0_4 : w5.cell? ⟨w.heap.size, 4, none⟩ = some (.int .i64 am) := cell_of_row _ _ _ _ _ (0, 0) HB5.out.r0
  have c0_5 : w5.cell? ⟨w.heap.size, 5, none⟩ = some (.int .i64 tk) := cell_of_row _ _ _ _ _ (0, 0) HB5.out.r0
  have c1_0 : w5.cell? ⟨w.heap.size + 1, 0, none⟩ = some (.int .i64 0) := cell_of_row _ _ _ _ _ (0, 0) HB5.out.r1
  have c1_1 : w5.cell? ⟨w.heap.size + 1, 1, none⟩ = some (.int .i64 0) := cell_of_row _ _ _ _ _ (0, 0) HB5.out.r1
  have c1_2 : w5.cell? ⟨w.heap.size + 1, 2, none⟩ = some (.int .i64 0) := cell_of_row _ _ _ _ _ (0, 0) HB5.out.r1
  have c1_3 : w5.cell? ⟨w.heap.size + 1, 3, none⟩ = some (.int .i64 0) := cell_of_row _ _ _ _ _ (0, 0) HB5.out.r1
  have c1_4 : w5.cell? ⟨w.heap.size + 1, 4, none⟩ = some (.int .i64 0) := cell_of_row _ _ _ _ _ (0, 0) HB5.out.r1
  have c1_5 : w5.cell? ⟨w.heap.size + 1, 5, none⟩ = some (.int .i64 0) := cell_of_row _ _ _ _ _ (0, 0) HB5.out.r1
  go_wp2_with (with_reducible show wpList _ _ _ (Oper.mk _ (.store 23 _ _) _ _ _ _ :: _) _ _; refine Hid.out ?_)
  refine Lib.hid ?_
  refine wpList_put rfl 23 _ _ rfl (w.heap.size + 1) #[.int .i64 a1, .int .i64 a2, .int .i64 a3, .int .i64 a4, .int .i64 a5, .int .i64 a6] _ 23 rfl rfl HB5.out.r1 (by kernel_rfl) rfl (by kernel_rfl) ?_
  intro w6 hr6 hg6
  have HB6 : Hid (Bx w [(w.heap.size, .cells #[.int .i64 fl, .int .i64 (fl - 1), .int .i64 (T - 1), .int .i64 2, .int .i64 am, .int .i64 tk] 23 (0, 0)), (w.heap.size + 1, .cells #[.int .i64 a1, .int .i64 a2, .int .i64 a3, .int .i64 a4, .int .i64 a5, .int .i64 a6] 23 (0, 0))] w6) := Lib.hid (HB5.out.put (by omega) hg6.out hr6.out (by simp only [List.mem_cons, List.not_mem_nil, or_false]; rintro p (rfl | rfl) <;> simp <;> omega))
  clear c0_0 c0_1 c0_2 c0_3 c0_4 c0_5 c1_0 c1_1 c1_2 c1_3 c1_4 c1_5 hr6 hg6 HB5
  go_wp2_with fail
  exact bodyPost_ret (results_cell_row Try.results21 _ _ _ _ _ (0, 0) _ rfl (HB6.out.r1) Try.underlying23 rfl (by kernel_rfl)) rfl (⟨rfl, HB6.out.below⟩)
end Go.Proofs.Ytmfinebkikhceaa
