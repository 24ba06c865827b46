/- Step of package rig, for anything. No statement of the seat is proved here. -/
import Derived.Test.YtmfinebkikhceaaRgLeaf
namespace Go.Proofs.Ytmfinebkikhceaa
open Go.RowKit
set_option maxRecDepth 4000
set_option linter.unusedSimpArgs false
set_option linter.unusedVariables false

set_option maxHeartbeats 8000000 in
theorem rigS_bad (F : Int) (r : Rg) (m t : Int) (w : World) (h : Rg.isB F r = false) :
    Calls Try.prog 10 #[.int .i64 F, r.agg, .int .i64 m, .int .i64 t] w fun ee w' => ee = .returned ((Rg.new 0).agg) ∧ Below w.heap.size w w' := by
  have FI := Lib.hid (fun wx => rigIs_any F r wx)
  rw [h] at FI
  have FN := Lib.hid (fun wx => rigNew_any 0 wx)
  obtain ⟨fl, tg, lf, dd, am, tk⟩ := r
  rw [show (Rg.new 0).agg = .agg #[.int .i64 0, .int .i64 0, .int .i64 0, .int .i64 2, .int .i64 0, .int .i64 0] from rfl] at *
  simp only [Rg.agg] at *
  clear h
  have HB0 := Lib.hid (bxs2 w (.cells #[.int .i64 fl, .int .i64 tg, .int .i64 lf, .int .i64 dd, .int .i64 am, .int .i64 tk] 23) (.cells #[.int .i64 0, .int .i64 0, .int .i64 0, .int .i64 0, .int .i64 0, .int .i64 0] 23))
  go_enter Try.func10, Try.ntmps10
  go_wp2_with fail
  refine (FI.out _).mono ?_
  rintro e w1 ⟨rfl, hb1⟩
  have HB1 := Lib.hid (HB0.out.next hb1)
  clear hb1 HB0
  have c0_0 : w1.cell? ⟨w.heap.size, 0, none⟩ = some (.int .i64 fl) := cell_of_row _ _ _ _ _ (0, 0) HB1.out.r0
  have c0_1 : w1.cell? ⟨w.heap.size, 1, none⟩ = some (.int .i64 tg) := cell_of_row _ _ _ _ _ (0, 0) HB1.out.r0
  have c0_2 : w1.cell? ⟨w.heap.size, 2, none⟩ = some (.int .i64 lf) := cell_of_row _ _ _ _ _ (0, 0) HB1.out.r0
  have c0_3 : w1.cell? ⟨w.heap.size, 3, none⟩ = some (.int .i64 dd) := cell_of_row _ _ _ _ _ (0, 0) HB1.out.r0
  have c0_4 : w1.cell? ⟨w.heap.size, 4, none⟩ = some (.int .i64 am) := cell_of_row _ _ _ _ _ (0, 0) HB1.out.r0
  have c0_5 : w1.cell? ⟨w.heap.size, 5, none⟩ = some (.int .i64 tk) := cell_of_row _ _ _ _ _ (0, 0) HB1.out.r0
  have c1_0 : w1.cell? ⟨w.heap.size + 1, 0, none⟩ = some (.int .i64 0) := cell_of_row _ _ _ _ _ (0, 0) HB1.out.r1
  have c1_1 : w1.cell? ⟨w.heap.size + 1, 1, none⟩ = some (.int .i64 0) := cell_of_row _ _ _ _ _ (0, 0) HB1.out.r1
  have c1_2 : w1.cell? ⟨w.heap.size + 1, 2, none⟩ = some (.int .i64 0) := cell_of_row _ _ _ _ _ (0, 0) HB1.out.r1
  have c1_3 : w1.cell? ⟨w.heap.size + 1, 3, none⟩ = some (.int .i64 0) := cell_of_row _ _ _ _ _ (0, 0) HB1.out.r1
  have c1_4 : w1.cell? ⟨w.heap.size + 1, 4, none⟩ = some (.int .i64 0) := cell_of_row _ _ _ _ _ (0, 0) HB1.out.r1
  have c1_5 : w1.cell? ⟨w.heap.size + 1, 5, none⟩ = some (.int .i64 0) := cell_of_row _ _ _ _ _ (0, 0) HB1.out.r1
  go_wp2_with fail
  refine (FN.out _).mono ?_
  rintro e w2 ⟨rfl, hb2⟩
  have HB2 := Lib.hid (HB1.out.next hb2)
  clear c0_0 c0_1 c0_2 c0_3 c0_4 c0_5 c1_0 c1_1 c1_2 c1_3 c1_4 c1_5 hb2 HB1
  have c0_0 : w2.cell? ⟨w.heap.size, 0, none⟩ = some (.int .i64 fl) := cell_of_row _ _ _ _ _ (0, 0) HB2.out.r0
  have c0_1 : w2.cell? ⟨w.heap.size, 1, none⟩ = some (.int .i64 tg) := cell_of_row _ _ _ _ _ (0, 0) HB2.out.r0
  have c0_2 : w2.cell? ⟨w.heap.size, 2, none⟩ = some (.int .i64 lf) := cell_of_row _ _ _ _ _ (0, 0) HB2.out.r0
  have c0_3 : w2.cell? ⟨w.heap.size, 3, none⟩ = some (.int .i64 dd) := cell_of_row _ _ _ _ _ (0, 0) HB2.out.r0
  have c0_4 : w2.cell? ⟨w.heap.size, 4, none⟩ = some (.int .i64 am) := cell_of_row _ _ _ _ _ (0, 0) HB2.out.r0
  have c0_5 : w2.cell? ⟨w.heap.size, 5, none⟩ = some (.int .i64 tk) := cell_of_row _ _ _ _ _ (0, 0) HB2.out.r0
  have c1_0 : w2.cell? ⟨w.heap.size + 1, 0, none⟩ = some (.int .i64 0) := cell_of_row _ _ _ _ _ (0, 0) HB2.out.r1
  have c1_1 : w2.cell? ⟨w.heap.size + 1, 1, none⟩ = some (.int .i64 0) := cell_of_row _ _ _ _ _ (0, 0) HB2.out.r1
  have c1_2 : w2.cell? ⟨w.heap.size + 1, 2, none⟩ = some (.int .i64 0) := cell_of_row _ _ _ _ _ (0, 0) HB2.out.r1
  have c1_3 : w2.cell? ⟨w.heap.size + 1, 3, none⟩ = some (.int .i64 0) := cell_of_row _ _ _ _ _ (0, 0) HB2.out.r1
  have c1_4 : w2.cell? ⟨w.heap.size + 1, 4, none⟩ = some (.int .i64 0) := cell_of_row _ _ _ _ _ (0, 0) HB2.out.r1
  have c1_5 : w2.cell? ⟨w.heap.size + 1, 5, none⟩ = some (.int .i64 0) := cell_of_row _ _ _ _ _ (0, 0) HB2.out.r1
  go_wp2_with (with_reducible show wpList _ _ _ (Oper.mk _ (.store 23 _ _) _ _ _ _ :: _) _ _; refine Hid.out ?_)
  refine Lib.hid ?_
  refine wpList_put rfl 23 _ _ rfl (w.heap.size + 1) #[.int .i64 0, .int .i64 0, .int .i64 0, .int .i64 2, .int .i64 0, .int .i64 0] _ 23 rfl rfl HB2.out.r1 (by kernel_rfl) rfl (by kernel_rfl) ?_
  intro w3 hr3 hg3
  have HB3 : Hid (Bx w [(w.heap.size, .cells #[.int .i64 fl, .int .i64 tg, .int .i64 lf, .int .i64 dd, .int .i64 am, .int .i64 tk] 23 (0, 0)), (w.heap.size + 1, .cells #[.int .i64 0, .int .i64 0, .int .i64 0, .int .i64 2, .int .i64 0, .int .i64 0] 23 (0, 0))] w3) := Lib.hid (HB2.out.put (by omega) hg3.out hr3.out (by simp only [List.mem_cons, List.not_mem_nil, or_false]; rintro p (rfl | rfl) <;> simp <;> omega))
  clear c0_0 c0_1 c0_2 c0_3 c0_4 c0_5 c1_0 c1_1 c1_2 c1_3 c1_4 c1_5 hr3 hg3 HB2
  go_wp2_with fail
  exact bodyPost_ret (results_cell_row Try.results10 _ _ _ _ _ (0, 0) _ rfl (HB3.out.r1) Try.underlying23 rfl (by kernel_rfl)) rfl (⟨rfl, HB3.out.below⟩)
set_option maxHeartbeats 8000000 in
theorem rigS_ok (F : Int) (r : Rg) (m t u T : Int) (w : World) (h : Rg.Ok F r) (hu : (if t < 1 then (1 : Int) else t) = u) (hT : (if 10000 < u then (10000 : Int) else u) = T) (hT1 : 1 ≤ T ∧ T ≤ 10000) :
    Calls Try.prog 10 #[.int .i64 F, r.agg, .int .i64 m, .int .i64 t] w fun ee w' => ee = .returned ((Rg.stepF F r m T).agg) ∧ Below w.heap.size w w' := by
  rw [Rg.stepF_prog h]
  have FI := Lib.hid (fun wx => rigIs_any F r wx)
  rw [Rg.isB_iff.2 h] at FI
  have hs := h.step
  by_cases hl : r.lf ≠ 0
  · rw [if_pos hl]
    have FR := Lib.hid (fun wx => rigRide_any r r.tg (r.lf - 1) wx)
    generalize Rg.rideF r r.tg (r.lf - 1) = v at *
    have hw : IntKind.i64.wrap (r.lf - 1) = r.lf - 1 := by rw [IntKind.wrap_i64]; omega
    obtain ⟨fl, tg, lf, dd, am, tk⟩ := r
    obtain ⟨a1, a2, a3, a4, a5, a6⟩ := v
    simp only at hl hw
    have hlB : (lf != 0) = true := by simpa using hl
    simp only [Rg.agg] at *
    clear h hs hl hT1
    have HB0 := Lib.hid (bxs2 w (.cells #[.int .i64 fl, .int .i64 tg, .int .i64 lf, .int .i64 dd, .int .i64 am, .int .i64 tk] 23) (.cells #[.int .i64 0, .int .i64 0, .int .i64 0, .int .i64 0, .int .i64 0, .int .i64 0] 23))
    go_enter Try.func10, Try.ntmps10
    go_wp2_with fail
    refine (FI.out _).mono ?_
    rintro e w1 ⟨rfl, hb1⟩
    have HB1 := Lib.hid (HB0.out.next hb1)
    clear hb1 HB0
    have c0_0 : w1.cell? ⟨w.heap.size, 0, none⟩ = some (.int .i64 fl) := cell_of_row _ _ _ _ _ (0, 0) HB1.out.r0
    have c0_1 : w1.cell? ⟨w.heap.size, 1, none⟩ = some (.int .i64 tg) := cell_of_row _ _ _ _ _ (0, 0) HB1.out.r0
    have c0_2 : w1.cell? ⟨w.heap.size, 2, none⟩ = some (.int .i64 lf) := cell_of_row _ _ _ _ _ (0, 0) HB1.out.r0
    have c0_3 : w1.cell? ⟨w.heap.size, 3, none⟩ = some (.int .i64 dd) := cell_of_row _ _ _ _ _ (0, 0) HB1.out.r0
    have c0_4 : w1.cell? ⟨w.heap.size, 4, none⟩ = some (.int .i64 am) := cell_of_row _ _ _ _ _ (0, 0) HB1.out.r0
    have c0_5 : w1.cell? ⟨w.heap.size, 5, none⟩ = some (.int .i64 tk) := cell_of_row _ _ _ _ _ (0, 0) HB1.out.r0
    have c1_0 : w1.cell? ⟨w.heap.size + 1, 0, none⟩ = some (.int .i64 0) := cell_of_row _ _ _ _ _ (0, 0) HB1.out.r1
    have c1_1 : w1.cell? ⟨w.heap.size + 1, 1, none⟩ = some (.int .i64 0) := cell_of_row _ _ _ _ _ (0, 0) HB1.out.r1
    have c1_2 : w1.cell? ⟨w.heap.size + 1, 2, none⟩ = some (.int .i64 0) := cell_of_row _ _ _ _ _ (0, 0) HB1.out.r1
    have c1_3 : w1.cell? ⟨w.heap.size + 1, 3, none⟩ = some (.int .i64 0) := cell_of_row _ _ _ _ _ (0, 0) HB1.out.r1
    have c1_4 : w1.cell? ⟨w.heap.size + 1, 4, none⟩ = some (.int .i64 0) := cell_of_row _ _ _ _ _ (0, 0) HB1.out.r1
    have c1_5 : w1.cell? ⟨w.heap.size + 1, 5, none⟩ = some (.int .i64 0) := cell_of_row _ _ _ _ _ (0, 0) HB1.out.r1
    go_wp2_with fail
    refine (FR.out _).mono ?_
    rintro e w2 ⟨rfl, hb2⟩
    have HB2 := Lib.hid (HB1.out.next hb2)
    clear c0_0 c0_1 c0_2 c0_3 c0_4 c0_5 c1_0 c1_1 c1_2 c1_3 c1_4 c1_5 hb2 HB1
    have c0_0 : w2.cell? ⟨w.heap.size, 0, none⟩ = some (.int .i64 fl) := cell_of_row _ _ _ _ _ (0, 0) HB2.out.r0
    have c0_1 : w2.cell? ⟨w.heap.size, 1, none⟩ = some (.int .i64 tg) := cell_of_row _ _ _ _ _ (0, 0) HB2.out.r0
    have c0_2 : w2.cell? ⟨w.heap.size, 2, none⟩ = some (.int .i64 lf) := cell_of_row _ _ _ _ _ (0, 0) HB2.out.r0
    have c0_3 : w2.cell? ⟨w.heap.size, 3, none⟩ = some (.int .i64 dd) := cell_of_row _ _ _ _ _ (0, 0) HB2.out.r0
    have c0_4 : w2.cell? ⟨w.heap.size, 4, none⟩ = some (.int .i64 am) := cell_of_row _ _ _ _ _ (0, 0) HB2.out.r0
    have c0_5 : w2.cell? ⟨w.heap.size, 5, none⟩ = some (.int .i64 tk) := cell_of_row _ _ _ _ _ (0, 0) HB2.out.r0
    have c1_0 : w2.cell? ⟨w.heap.size + 1, 0, none⟩ = some (.int .i64 0) := cell_of_row _ _ _ _ _ (0, 0) HB2.out.r1
    have c1_1 : w2.cell? ⟨w.heap.size + 1, 1, none⟩ = some (.int .i64 0) := cell_of_row _ _ _ _ _ (0, 0) HB2.out.r1
    have c1_2 : w2.cell? ⟨w.heap.size + 1, 2, none⟩ = some (.int .i64 0) := cell_of_row _ _ _ _ _ (0, 0) HB2.out.r1
    have c1_3 : w2.cell? ⟨w.heap.size + 1, 3, none⟩ = some (.int .i64 0) := cell_of_row _ _ _ _ _ (0, 0) HB2.out.r1
    have c1_4 : w2.cell? ⟨w.heap.size + 1, 4, none⟩ = some (.int .i64 0) := cell_of_row _ _ _ _ _ (0, 0) HB2.out.r1
    have c1_5 : w2.cell? ⟨w.heap.size + 1, 5, none⟩ = some (.int .i64 0) := cell_of_row _ _ _ _ _ (0, 0) HB2.out.r1
    go_wp2_with (with_reducible show wpList _ _ _ (Oper.mk _ (.store 23 _ _) _ _ _ _ :: _) _ _; refine Hid.out ?_)
    refine Lib.hid ?_
    refine wpList_put rfl 23 _ _ rfl (w.heap.size + 1) #[.int .i64 a1, .int .i64 a2, .int .i64 a3, .int .i64 a4, .int .i64 a5, .int .i64 a6] _ 23 rfl rfl HB2.out.r1 (by kernel_rfl) rfl (by kernel_rfl) ?_
    intro w3 hr3 hg3
    have HB3 : Hid (Bx w [(w.heap.size, .cells #[.int .i64 fl, .int .i64 tg, .int .i64 lf, .int .i64 dd, .int .i64 am, .int .i64 tk] 23 (0, 0)), (w.heap.size + 1, .cells #[.int .i64 a1, .int .i64 a2, .int .i64 a3, .int .i64 a4, .int .i64 a5, .int .i64 a6] 23 (0, 0))] w3) := Lib.hid (HB2.out.put (by omega) hg3.out hr3.out (by simp only [List.mem_cons, List.not_mem_nil, or_false]; rintro p (rfl | rfl) <;> simp <;> omega))
    clear c0_0 c0_1 c0_2 c0_3 c0_4 c0_5 c1_0 c1_1 c1_2 c1_3 c1_4 c1_5 hr3 hg3 HB2
    go_wp2_with fail
    exact bodyPost_ret (results_cell_row Try.results10 _ _ _ _ _ (0, 0) _ rfl (HB3.out.r1) Try.underlying23 rfl (by kernel_rfl)) rfl (⟨rfl, HB3.out.below⟩)
  · rw [if_neg hl]
    have FX := Lib.hid (fun wx => rigNext_any F r m wx h.fs h.fl)
    have hlB : (r.lf != 0) = false := by simpa using hl
    by_cases hn : Rg.nextF F r m ≠ r.fl
    · rw [if_pos hn]
      have FR := Lib.hid (fun wx => rigRide_any r (Rg.nextF F r m) (T - 1) wx)
      have hnB : (Rg.nextF F r m != r.fl) = true := by simpa using hn
      have hw : IntKind.i64.wrap (T - 1) = T - 1 := by rw [IntKind.wrap_i64]; omega
      generalize Rg.rideF r (Rg.nextF F r m) (T - 1) = v at *
      generalize Rg.nextF F r m = n at *
      obtain ⟨fl, tg, lf, dd, am, tk⟩ := r
      obtain ⟨a1, a2, a3, a4, a5, a6⟩ := v
      simp only at hlB hnB
      simp only [Rg.agg] at *
      clear h hs hl hn hT1
      have HB0 := Lib.hid (bxs2 w (.cells #[.int .i64 fl, .int .i64 tg, .int .i64 lf, .int .i64 dd, .int .i64 am, .int .i64 tk] 23) (.cells #[.int .i64 0, .int .i64 0, .int .i64 0, .int .i64 0, .int .i64 0, .int .i64 0] 23))
      go_enter Try.func10, Try.ntmps10
      go_wp2_with fail
      refine (FI.out _).mono ?_
      rintro e w1 ⟨rfl, hb1⟩
      have HB1 := Lib.hid (HB0.out.next hb1)
      clear hb1 HB0
      have c0_0 : w1.cell? ⟨w.heap.size, 0, none⟩ = some (.int .i64 fl) := cell_of_row _ _ _ _ _ (0, 0) HB1.out.r0
      have c0_1 : w1.cell? ⟨w.heap.size, 1, none⟩ = some (.int .i64 tg) := cell_of_row _ _ _ _ _ (0, 0) HB1.out.r0
      have c0_2 : w1.cell? ⟨w.heap.size, 2, none⟩ = some (.int .i64 lf) := cell_of_row _ _ _ _ _ (0, 0) HB1.out.r0
      have c0_3 : w1.cell? ⟨w.heap.size, 3, none⟩ = some (.int .i64 dd) := cell_of_row _ _ _ _ _ (0, 0) HB1.out.r0
      have c0_4 : w1.cell? ⟨w.heap.size, 4, none⟩ = some (.int .i64 am) := cell_of_row _ _ _ _ _ (0, 0) HB1.out.r0
      have c0_5 : w1.cell? ⟨w.heap.size, 5, none⟩ = some (.int .i64 tk) := cell_of_row _ _ _ _ _ (0, 0) HB1.out.r0
      have c1_0 : w1.cell? ⟨w.heap.size + 1, 0, none⟩ = some (.int .i64 0) := cell_of_row _ _ _ _ _ (0, 0) HB1.out.r1
      have c1_1 : w1.cell? ⟨w.heap.size + 1, 1, none⟩ = some (.int .i64 0) := cell_of_row _ _ _ _ _ (0, 0) HB1.out.r1
      have c1_2 : w1.cell? ⟨w.heap.size + 1, 2, none⟩ = some (.int .i64 0) := cell_of_row _ _ _ _ _ (0, 0) HB1.out.r1
      have c1_3 : w1.cell? ⟨w.heap.size + 1, 3, none⟩ = some (.int .i64 0) := cell_of_row _ _ _ _ _ (0, 0) HB1.out.r1
      have c1_4 : w1.cell? ⟨w.heap.size + 1, 4, none⟩ = some (.int .i64 0) := cell_of_row _ _ _ _ _ (0, 0) HB1.out.r1
      have c1_5 : w1.cell? ⟨w.heap.size + 1, 5, none⟩ = some (.int .i64 0) := cell_of_row _ _ _ _ _ (0, 0) HB1.out.r1
      go_wp2_with fail
      refine (FX.out _).mono ?_
      rintro e w2 ⟨rfl, hb2⟩
      have HB2 := Lib.hid (HB1.out.next hb2)
      clear c0_0 c0_1 c0_2 c0_3 c0_4 c0_5 c1_0 c1_1 c1_2 c1_3 c1_4 c1_5 hb2 HB1
      have c0_0 : w2.cell? ⟨w.heap.size, 0, none⟩ = some (.int .i64 fl) := cell_of_row _ _ _ _ _ (0, 0) HB2.out.r0
      have c0_1 : w2.cell? ⟨w.heap.size, 1, none⟩ = some (.int .i64 tg) := cell_of_row _ _ _ _ _ (0, 0) HB2.out.r0
      have c0_2 : w2.cell? ⟨w.heap.size, 2, none⟩ = some (.int .i64 lf) := cell_of_row _ _ _ _ _ (0, 0) HB2.out.r0
      have c0_3 : w2.cell? ⟨w.heap.size, 3, none⟩ = some (.int .i64 dd) := cell_of_row _ _ _ _ _ (0, 0) HB2.out.r0
      have c0_4 : w2.cell? ⟨w.heap.size, 4, none⟩ = some (.int .i64 am) := cell_of_row _ _ _ _ _ (0, 0) HB2.out.r0
      have c0_5 : w2.cell? ⟨w.heap.size, 5, none⟩ = some (.int .i64 tk) := cell_of_row _ _ _ _ _ (0, 0) HB2.out.r0
      have c1_0 : w2.cell? ⟨w.heap.size + 1, 0, none⟩ = some (.int .i64 0) := cell_of_row _ _ _ _ _ (0, 0) HB2.out.r1
      have c1_1 : w2.cell? ⟨w.heap.size + 1, 1, none⟩ = some (.int .i64 0) := cell_of_row _ _ _ _ _ (0, 0) HB2.out.r1
      have c1_2 : w2.cell? ⟨w.heap.size + 1, 2, none⟩ = some (.int .i64 0) := cell_of_row _ _ _ _ _ (0, 0) HB2.out.r1
      have c1_3 : w2.cell? ⟨w.heap.size + 1, 3, none⟩ = some (.int .i64 0) := cell_of_row _ _ _ _ _ (0, 0) HB2.out.r1
      have c1_4 : w2.cell? ⟨w.heap.size + 1, 4, none⟩ = some (.int .i64 0) := cell_of_row _ _ _ _ _ (0, 0) HB2.out.r1
      have c1_5 : w2.cell? ⟨w.heap.size + 1, 5, none⟩ = some (.int .i64 0) := cell_of_row _ _ _ _ _ (0, 0) HB2.out.r1
      go_wp2_with fail
      refine (FR.out _).mono ?_
      rintro e w3 ⟨rfl, hb3⟩
      have HB3 := Lib.hid (HB2.out.next hb3)
      clear c0_0 c0_1 c0_2 c0_3 c0_4 c0_5 c1_0 c1_1 c1_2 c1_3 c1_4 c1_5 hb3 HB2
      have c0_0 : w3.cell? ⟨w.heap.size, 0, none⟩ = some (.int .i64 fl) := cell_of_row _ _ _ _ _ (0, 0) HB3.out.r0
      have c0_1 : w3.cell? ⟨w.heap.size, 1, none⟩ = some (.int .i64 tg) := cell_of_row _ _ _ _ _ (0, 0) HB3.out.r0
      have c0_2 : w3.cell? ⟨w.heap.size, 2, none⟩ = some (.int .i64 lf) := cell_of_row _ _ _ _ _ (0, 0) HB3.out.r0
      have c0_3 : w3.cell? ⟨w.heap.size, 3, none⟩ = some (.int .i64 dd) := cell_of_row _ _ _ _ _ (0, 0) HB3.out.r0
      have c0_4 : w3.cell? ⟨w.heap.size, 4, none⟩ = some (.int .i64 am) := cell_of_row _ _ _ _ _ (0, 0) HB3.out.r0
      have c0_5 : w3.cell? ⟨w.heap.size, 5, none⟩ = some (.int .i64 tk) := cell_of_row _ _ _ _ _ (0, 0) HB3.out.r0
      have c1_0 : w3.cell? ⟨w.heap.size + 1, 0, none⟩ = some (.int .i64 0) := cell_of_row _ _ _ _ _ (0, 0) HB3.out.r1
      have c1_1 : w3.cell? ⟨w.heap.size + 1, 1, none⟩ = some (.int .i64 0) := cell_of_row _ _ _ _ _ (0, 0) HB3.out.r1
      have c1_2 : w3.cell? ⟨w.heap.size + 1, 2, none⟩ = some (.int .i64 0) := cell_of_row _ _ _ _ _ (0, 0) HB3.out.r1
      have c1_3 : w3.cell? ⟨w.heap.size + 1, 3, none⟩ = some (.int .i64 0) := cell_of_row _ _ _ _ _ (0, 0) HB3.out.r1
      have c1_4 : w3.cell? ⟨w.heap.size + 1, 4, none⟩ = some (.int .i64 0) := cell_of_row _ _ _ _ _ (0, 0) HB3.out.r1
      have c1_5 : w3.cell? ⟨w.heap.size + 1, 5, none⟩ = some (.int .i64 0) := cell_of_row _ _ _ _ _ (0, 0) HB3.out.r1
      go_wp2_with (with_reducible show wpList _ _ _ (Oper.mk _ (.store 23 _ _) _ _ _ _ :: _) _ _; refine Hid.out ?_)
      refine Lib.hid ?_
      refine wpList_put rfl 23 _ _ rfl (w.heap.size + 1) #[.int .i64 a1, .int .i64 a2, .int .i64 a3, .int .i64 a4, .int .i64 a5, .int .i64 a6] _ 23 rfl rfl HB3.out.r1 (by kernel_rfl) rfl (by kernel_rfl) ?_
      intro w4 hr4 hg4
      have HB4 : Hid (Bx w [(w.heap.size, .cells #[.int .i64 fl, .int .i64 tg, .int .i64 lf, .int .i64 dd, .int .i64 am, .int .i64 tk] 23 (0, 0)), (w.heap.size + 1, .cells #[.int .i64 a1, .int .i64 a2, .int .i64 a3, .int .i64 a4, .int .i64 a5, .int .i64 a6] 23 (0, 0))] w4) := Lib.hid (HB3.out.put (by omega) hg4.out hr4.out (by simp only [List.mem_cons, List.not_mem_nil, or_false]; rintro p (rfl | rfl) <;> simp <;> omega))
      clear c0_0 c0_1 c0_2 c0_3 c0_4 c0_5 c1_0 c1_1 c1_2 c1_3 c1_4 c1_5 hr4 hg4 HB3
      go_wp2_with fail
      exact bodyPost_ret (results_cell_row Try.results10 _ _ _ _ _ (0, 0) _ rfl (HB4.out.r1) Try.underlying23 rfl (by kernel_rfl)) rfl (⟨rfl, HB4.out.below⟩)
    · rw [if_neg hn]
      have hn : Rg.nextF F r m = r.fl := Decidable.not_not.1 hn
      rw [hn] at FX
      have FA := Lib.hid (fun wx => rigAim_any r m wx)
      have htk : 0 ≤ r.tk ∧ r.tk ≤ 10000 := by have := h.door; omega
      have FT := Lib.hid (fun wx => rigTurn_any r (r.aim m) T wx htk hT1)
      generalize Rg.turnF r (r.aim m) T = v at *
      generalize r.aim m = a at *
      obtain ⟨fl, tg, lf, dd, am, tk⟩ := r
      obtain ⟨a1, a2, a3, a4, a5, a6⟩ := v
      simp only at hlB
      have hnB : (fl != fl) = false := by simp
      simp only [Rg.agg] at *
      clear h hs hl hn hT1 htk
      have HB0 := Lib.hid (bxs2 w (.cells #[.int .i64 fl, .int .i64 tg, .int .i64 lf, .int .i64 dd, .int .i64 am, .int .i64 tk] 23) (.cells #[.int .i64 0, .int .i64 0, .int .i64 0, .int .i64 0, .int .i64 0, .int .i64 0] 23))
      go_enter Try.func10, Try.ntmps10
      go_wp2_with fail
      refine (FI.out _).mono ?_
      rintro e w1 ⟨rfl, hb1⟩
      have HB1 := Lib.hid (HB0.out.next hb1)
      clear hb1 HB0
      have c0_0 : w1.cell? ⟨w.heap.size, 0, none⟩ = some (.int .i64 fl) := cell_of_row _ _ _ _ _ (0, 0) HB1.out.r0
      have c0_1 : w1.cell? ⟨w.heap.size, 1, none⟩ = some (.int .i64 tg) := cell_of_row _ _ _ _ _ (0, 0) HB1.out.r0
      have c0_2 : w1.cell? ⟨w.heap.size, 2, none⟩ = some (.int .i64 lf) := cell_of_row _ _ _ _ _ (0, 0) HB1.out.r0
      have c0_3 : w1.cell? ⟨w.heap.size, 3, none⟩ = some (.int .i64 dd) := cell_of_row _ _ _ _ _ (0, 0) HB1.out.r0
      have c0_4 : w1.cell? ⟨w.heap.size, 4, none⟩ = some (.int .i64 am) := cell_of_row _ _ _ _ _ (0, 0) HB1.out.r0
      have c0_5 : w1.cell? ⟨w.heap.size, 5, none⟩ = some (.int .i64 tk) := cell_of_row _ _ _ _ _ (0, 0) HB1.out.r0
      have c1_0 : w1.cell? ⟨w.heap.size + 1, 0, none⟩ = some (.int .i64 0) := cell_of_row _ _ _ _ _ (0, 0) HB1.out.r1
      have c1_1 : w1.cell? ⟨w.heap.size + 1, 1, none⟩ = some (.int .i64 0) := cell_of_row _ _ _ _ _ (0, 0) HB1.out.r1
      have c1_2 : w1.cell? ⟨w.heap.size + 1, 2, none⟩ = some (.int .i64 0) := cell_of_row _ _ _ _ _ (0, 0) HB1.out.r1
      have c1_3 : w1.cell? ⟨w.heap.size + 1, 3, none⟩ = some (.int .i64 0) := cell_of_row _ _ _ _ _ (0, 0) HB1.out.r1
      have c1_4 : w1.cell? ⟨w.heap.size + 1, 4, none⟩ = some (.int .i64 0) := cell_of_row _ _ _ _ _ (0, 0) HB1.out.r1
      have c1_5 : w1.cell? ⟨w.heap.size + 1, 5, none⟩ = some (.int .i64 0) := cell_of_row _ _ _ _ _ (0, 0) HB1.out.r1
      go_wp2_with fail
      refine (FX.out _).mono ?_
      rintro e w2 ⟨rfl, hb2⟩
      have HB2 := Lib.hid (HB1.out.next hb2)
      clear c0_0 c0_1 c0_2 c0_3 c0_4 c0_5 c1_0 c1_1 c1_2 c1_3 c1_4 c1_5 hb2 HB1
      have c0_0 : w2.cell? ⟨w.heap.size, 0, none⟩ = some (.int .i64 fl) := cell_of_row _ _ _ _ _ (0, 0) HB2.out.r0
      have c0_1 : w2.cell? ⟨w.heap.size, 1, none⟩ = some (.int .i64 tg) := cell_of_row _ _ _ _ _ (0, 0) HB2.out.r0
      have c0_2 : w2.cell? ⟨w.heap.size, 2, none⟩ = some (.int .i64 lf) := cell_of_row _ _ _ _ _ (0, 0) HB2.out.r0
      have c0_3 : w2.cell? ⟨w.heap.size, 3, none⟩ = some (.int .i64 dd) := cell_of_row _ _ _ _ _ (0, 0) HB2.out.r0
      have c0_4 : w2.cell? ⟨w.heap.size, 4, none⟩ = some (.int .i64 am) := cell_of_row _ _ _ _ _ (0, 0) HB2.out.r0
      have c0_5 : w2.cell? ⟨w.heap.size, 5, none⟩ = some (.int .i64 tk) := cell_of_row _ _ _ _ _ (0, 0) HB2.out.r0
      have c1_0 : w2.cell? ⟨w.heap.size + 1, 0, none⟩ = some (.int .i64 0) := cell_of_row _ _ _ _ _ (0, 0) HB2.out.r1
      have c1_1 : w2.cell? ⟨w.heap.size + 1, 1, none⟩ = some (.int .i64 0) := cell_of_row _ _ _ _ _ (0, 0) HB2.out.r1
      have c1_2 : w2.cell? ⟨w.heap.size + 1, 2, none⟩ = some (.int .i64 0) := cell_of_row _ _ _ _ _ (0, 0) HB2.out.r1
      have c1_3 : w2.cell? ⟨w.heap.size + 1, 3, none⟩ = some (.int .i64 0) := cell_of_row _ _ _ _ _ (0, 0) HB2.out.r1
      have c1_4 : w2.cell? ⟨w.heap.size + 1, 4, none⟩ = some (.int .i64 0) := cell_of_row _ _ _ _ _ (0, 0) HB2.out.r1
      have c1_5 : w2.cell? ⟨w.heap.size + 1, 5, none⟩ = some (.int .i64 0) := cell_of_row _ _ _ _ _ (0, 0) HB2.out.r1
      go_wp2_with fail
      have q0 : w.heap.size < w2.heap.size := (Array.getElem?_eq_some_iff.1 HB2.out.r0).1
      have q1 : w.heap.size + 1 < w2.heap.size := (Array.getElem?_eq_some_iff.1 HB2.out.r1).1
      refine Chain.chain (fun p wx => Put (w2) (w.heap.size + 1) (.cells (if p = 0 then #[.int .i64 0, .int .i64 0, .int .i64 0, .int .i64 0, .int .i64 0, .int .i64 0] else #[.int .i64 a1, .int .i64 a2, .int .i64 a3, .int .i64 a4, .int .i64 a5, .int .i64 a6]) 23 (0, 0)) wx) (fun _ _ => False) [6] (by kernel_rfl) (by kernel_rfl) (fun _ _ _ _ h => h.elim) ((Put.start HB2.out.r1).drew) ?_
      iterate 6 (first
          | (apply Chain.walk_quiet (by rfl) (by decide)
             (intro p wx hp hwn hx K hK
              have z0_0 : wx.cell? ⟨w.heap.size, 0, none⟩ = some (.int .i64 fl) := cell_of_row _ _ _ _ _ (0, 0) ((hx.other (w.heap.size) q0 (by omega)).trans HB2.out.r0)
              have z0_1 : wx.cell? ⟨w.heap.size, 1, none⟩ = some (.int .i64 tg) := cell_of_row _ _ _ _ _ (0, 0) ((hx.other (w.heap.size) q0 (by omega)).trans HB2.out.r0)
              have z0_2 : wx.cell? ⟨w.heap.size, 2, none⟩ = some (.int .i64 lf) := cell_of_row _ _ _ _ _ (0, 0) ((hx.other (w.heap.size) q0 (by omega)).trans HB2.out.r0)
              have z0_3 : wx.cell? ⟨w.heap.size, 3, none⟩ = some (.int .i64 dd) := cell_of_row _ _ _ _ _ (0, 0) ((hx.other (w.heap.size) q0 (by omega)).trans HB2.out.r0)
              have z0_4 : wx.cell? ⟨w.heap.size, 4, none⟩ = some (.int .i64 am) := cell_of_row _ _ _ _ _ (0, 0) ((hx.other (w.heap.size) q0 (by omega)).trans HB2.out.r0)
              have z0_5 : wx.cell? ⟨w.heap.size, 5, none⟩ = some (.int .i64 tk) := cell_of_row _ _ _ _ _ (0, 0) ((hx.other (w.heap.size) q0 (by omega)).trans HB2.out.r0)
              first
                | (go_simp
                   first
                    | (go_at_call 20; (with_reducible refine (FA.out _).mono ?_); rintro e x1 ⟨rfl, hb⟩; exact hK _ (hx.next hb))
                    | (go_at_call 19; (with_reducible refine (FT.out _).mono ?_); rintro e x1 ⟨rfl, hb⟩; exact hK _ (hx.next hb))
                    | (go_at_K; exact hK _ hx)))
             exact ⟨_, rfl⟩)
          | (refine Chain.walk_no (by rfl) (by decide) ?_; simp only [Act.put, List.setIfInBounds_toArray, List.set_cons_succ, List.set_cons_zero]))
      apply Chain.walk_turn 0 (by rfl) (by rfl)
      · intro wx hx K hK
        exact Put.store 23 _ _ rfl rfl rfl hx (by kernel_rfl) rfl (by kernel_rfl) (fun w2 h => hK w2 h)
      · exact ⟨undef, rfl⟩
      refine Chain.walk_nil (fun w3 hp3 => ?_)
      replace hp3 : Put (w2) (w.heap.size + 1) (.cells #[.int .i64 a1, .int .i64 a2, .int .i64 a3, .int .i64 a4, .int .i64 a5, .int .i64 a6] 23 (0, 0)) w3 := hp3
      simp only [Act.put]
      have HB3 : Hid (Bx w [(w.heap.size, .cells #[.int .i64 fl, .int .i64 tg, .int .i64 lf, .int .i64 dd, .int .i64 am, .int .i64 tk] 23 (0, 0)), (w.heap.size + 1, .cells #[.int .i64 a1, .int .i64 a2, .int .i64 a3, .int .i64 a4, .int .i64 a5, .int .i64 a6] 23 (0, 0))] w3) := Lib.hid (HB2.out.ofPut (by omega) hp3 (by simp only [List.mem_cons, List.not_mem_nil, or_false]; rintro p (rfl | rfl) <;> simp <;> omega))
      clear c0_0 c0_1 c0_2 c0_3 c0_4 c0_5 c1_0 c1_1 c1_2 c1_3 c1_4 c1_5 hp3 HB2 q0 q1
      go_wp2_with fail
      exact bodyPost_ret (results_cell_row Try.results10 _ _ _ _ _ (0, 0) _ rfl (HB3.out.r1) Try.underlying23 rfl (by kernel_rfl)) rfl (⟨rfl, HB3.out.below⟩)
theorem rigStep_any (F : Int) (r : Rg) (m t : Int) (w : World) :
    Calls Try.prog 10 #[.int .i64 F, r.agg, .int .i64 m, .int .i64 t] w fun ee w' => ee = .returned ((Rg.anyF F r m t).agg) ∧ Below w.heap.size w w' := by
  unfold Rg.anyF
  cases hb : Rg.isB F r
  · rw [if_neg (by decide)]
    exact rigS_bad F r m t w hb
  · rw [if_pos rfl]
    obtain ⟨u, hu, hT⟩ := Rg.lim_rig t
    exact rigS_ok F r m t u _ w (Rg.isB_iff.1 hb) hu hT (Rg.lim_le t)
end Go.Proofs.Ytmfinebkikhceaa
