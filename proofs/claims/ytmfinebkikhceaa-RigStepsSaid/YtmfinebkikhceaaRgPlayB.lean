/- Step of the played drive, any time: the door, without a command to it. No statement of the seat is proved here. -/
import Derived.Test.YtmfinebkikhceaaRgPlay
import Derived.Test.YtmfinebkikhceaaRgE
namespace Go.Proofs.Ytmfinebkikhceaa
open Go.RowKit
set_option maxRecDepth 4000
set_option linter.unusedSimpArgs false
set_option linter.unusedVariables false

set_option maxHeartbeats 8000000 in
theorem playS0_open (F fl m t u T : Int) (w : World) (h : Rg.Ok F ⟨fl, fl, 0, 1, 0, 0⟩) (hu : (if 10000 < t then (10000 : Int) else t) = u) (hT : (if 1 < u then u else 1) = T) (hT1 : 1 ≤ T ∧ T ≤ 10000) (m1 : (m == 1) = false) (m2 : (m == 2) = false) (m3 : (m == 3) = false) (m4 : (m == 4) = false) (m5 : (m == 5) = false) :
    Calls Try.prog 21 #[.int .i64 F, Rg.agg ⟨fl, fl, 0, 1, 0, 0⟩, .int .i64 m, .int .i64 t] w fun ee w' => ee = .returned (Rg.agg ((⟨fl, fl, 0, 1, 0, 0⟩ : Rg))) ∧ Below w.heap.size w w' := by
  have FI := Lib.hid (fun wx => playIs_any F ⟨fl, fl, 0, 1, 0, 0⟩ wx)
  rw [Rg.isB_iff.2 h] at FI
  have hF := h.fs
  have hfl := h.fl
  simp only at hfl
  clear h
  simp only [Rg.agg, Rg.shut] at *
  clear hF hfl
  clear hT1
  have HB0 := Lib.hid (bxs2 w (.cells #[.int .i64 fl, .int .i64 fl, .int .i64 0, .int .i64 1, .int .i64 0, .int .i64 0] 23) (.cells #[.int .i64 0, .int .i64 0, .int .i64 0, .int .i64 0, .int .i64 0, .int .i64 0] 23))
  go_enter Try.func21, Try.ntmps21
  go_wp2_with fail
  refine (FI.out _).mono ?_
  rintro e w1 ⟨rfl, hb1⟩
  have HB1 := Lib.hid (HB0.out.next hb1)
  clear hb1 HB0
  have c0_0 : w1.cell? ⟨w.heap.size, 0, none⟩ = some (.int .i64 fl) := cell_of_row _ _ _ _ _ (0, 0) HB1.out.r0
  have c0_1 : w1.cell? ⟨w.heap.size, 1, none⟩ = some (.int .i64 fl) := cell_of_row _ _ _ _ _ (0, 0) HB1.out.r0
  have c0_2 : w1.cell? ⟨w.heap.size, 2, none⟩ = some (.int .i64 0) := cell_of_row _ _ _ _ _ (0, 0) HB1.out.r0
  have c0_3 : w1.cell? ⟨w.heap.size, 3, none⟩ = some (.int .i64 1) := cell_of_row _ _ _ _ _ (0, 0) HB1.out.r0
  have c0_4 : w1.cell? ⟨w.heap.size, 4, none⟩ = some (.int .i64 0) := cell_of_row _ _ _ _ _ (0, 0) HB1.out.r0
  have c0_5 : w1.cell? ⟨w.heap.size, 5, none⟩ = some (.int .i64 0) := cell_of_row _ _ _ _ _ (0, 0) HB1.out.r0
  have c1_0 : w1.cell? ⟨w.heap.size + 1, 0, none⟩ = some (.int .i64 0) := cell_of_row _ _ _ _ _ (0, 0) HB1.out.r1
  have c1_1 : w1.cell? ⟨w.heap.size + 1, 1, none⟩ = some (.int .i64 0) := cell_of_row _ _ _ _ _ (0, 0) HB1.out.r1
  have c1_2 : w1.cell? ⟨w.heap.size + 1, 2, none⟩ = some (.int .i64 0) := cell_of_row _ _ _ _ _ (0, 0) HB1.out.r1
  have c1_3 : w1.cell? ⟨w.heap.size + 1, 3, none⟩ = some (.int .i64 0) := cell_of_row _ _ _ _ _ (0, 0) HB1.out.r1
  have c1_4 : w1.cell? ⟨w.heap.size + 1, 4, none⟩ = some (.int .i64 0) := cell_of_row _ _ _ _ _ (0, 0) HB1.out.r1
  have c1_5 : w1.cell? ⟨w.heap.size + 1, 5, none⟩ = some (.int .i64 0) := cell_of_row _ _ _ _ _ (0, 0) HB1.out.r1
  go_wp2_with (with_reducible show wpList _ _ _ (Oper.mk _ (.store 23 _ _) _ _ _ _ :: _) _ _; refine Hid.out ?_)
  refine Lib.hid ?_
  refine wpList_put rfl 23 _ _ rfl (w.heap.size + 1) #[.int .i64 fl, .int .i64 fl, .int .i64 0, .int .i64 1, .int .i64 0, .int .i64 0] _ 23 rfl rfl HB1.out.r1 (by kernel_rfl) rfl (by kernel_rfl) ?_
  intro w2 hr2 hg2
  have HB2 : Hid (Bx w [(w.heap.size, .cells #[.int .i64 fl, .int .i64 fl, .int .i64 0, .int .i64 1, .int .i64 0, .int .i64 0] 23 (0, 0)), (w.heap.size + 1, .cells #[.int .i64 fl, .int .i64 fl, .int .i64 0, .int .i64 1, .int .i64 0, .int .i64 0] 23 (0, 0))] w2) := Lib.hid (HB1.out.put (by omega) hg2.out hr2.out (by simp only [List.mem_cons, List.not_mem_nil, or_false]; rintro p (rfl | rfl) <;> simp <;> omega))
  clear c0_0 c0_1 c0_2 c0_3 c0_4 c0_5 c1_0 c1_1 c1_2 c1_3 c1_4 c1_5 hr2 hg2 HB1
  go_wp2_with fail
  exact bodyPost_ret (results_cell_row Try.results21 _ _ _ _ _ (0, 0) _ rfl (HB2.out.r1) Try.underlying23 rfl (by kernel_rfl)) rfl (⟨rfl, HB2.out.below⟩)
set_option maxHeartbeats 8000000 in
theorem playS0_shut (F fl m t u T : Int) (w : World) (h : Rg.Ok F ⟨fl, fl, 0, 2, 0, 0⟩) (hu : (if 10000 < t then (10000 : Int) else t) = u) (hT : (if 1 < u then u else 1) = T) (hT1 : 1 ≤ T ∧ T ≤ 10000) (m1 : (m == 1) = false) (m2 : (m == 2) = false) (m3 : (m == 3) = false) (m4 : (m == 4) = false) (m5 : (m == 5) = false) :
    Calls Try.prog 21 #[.int .i64 F, Rg.agg ⟨fl, fl, 0, 2, 0, 0⟩, .int .i64 m, .int .i64 t] w fun ee w' => ee = .returned (Rg.agg ((⟨fl, fl, 0, 2, 0, 0⟩ : Rg))) ∧ Below w.heap.size w w' := by
  have FI := Lib.hid (fun wx => playIs_any F ⟨fl, fl, 0, 2, 0, 0⟩ wx)
  rw [Rg.isB_iff.2 h] at FI
  have hF := h.fs
  have hfl := h.fl
  simp only at hfl
  clear h
  simp only [Rg.agg, Rg.shut] at *
  clear hF hfl
  clear hT1
  have HB0 := Lib.hid (bxs2 w (.cells #[.int .i64 fl, .int .i64 fl, .int .i64 0, .int .i64 2, .int .i64 0, .int .i64 0] 23) (.cells #[.int .i64 0, .int .i64 0, .int .i64 0, .int .i64 0, .int .i64 0, .int .i64 0] 23))
  go_enter Try.func21, Try.ntmps21
  go_wp2_with fail
  refine (FI.out _).mono ?_
  rintro e w1 ⟨rfl, hb1⟩
  have HB1 := Lib.hid (HB0.out.next hb1)
  clear hb1 HB0
  have c0_0 : w1.cell? ⟨w.heap.size, 0, none⟩ = some (.int .i64 fl) := cell_of_row _ _ _ _ _ (0, 0) HB1.out.r0
  have c0_1 : w1.cell? ⟨w.heap.size, 1, none⟩ = some (.int .i64 fl) := cell_of_row _ _ _ _ _ (0, 0) HB1.out.r0
  have c0_2 : w1.cell? ⟨w.heap.size, 2, none⟩ = some (.int .i64 0) := cell_of_row _ _ _ _ _ (0, 0) HB1.out.r0
  have c0_3 : w1.cell? ⟨w.heap.size, 3, none⟩ = some (.int .i64 2) := cell_of_row _ _ _ _ _ (0, 0) HB1.out.r0
  have c0_4 : w1.cell? ⟨w.heap.size, 4, none⟩ = some (.int .i64 0) := cell_of_row _ _ _ _ _ (0, 0) HB1.out.r0
  have c0_5 : w1.cell? ⟨w.heap.size, 5, none⟩ = some (.int .i64 0) := cell_of_row _ _ _ _ _ (0, 0) HB1.out.r0
  have c1_0 : w1.cell? ⟨w.heap.size + 1, 0, none⟩ = some (.int .i64 0) := cell_of_row _ _ _ _ _ (0, 0) HB1.out.r1
  have c1_1 : w1.cell? ⟨w.heap.size + 1, 1, none⟩ = some (.int .i64 0) := cell_of_row _ _ _ _ _ (0, 0) HB1.out.r1
  have c1_2 : w1.cell? ⟨w.heap.size + 1, 2, none⟩ = some (.int .i64 0) := cell_of_row _ _ _ _ _ (0, 0) HB1.out.r1
  have c1_3 : w1.cell? ⟨w.heap.size + 1, 3, none⟩ = some (.int .i64 0) := cell_of_row _ _ _ _ _ (0, 0) HB1.out.r1
  have c1_4 : w1.cell? ⟨w.heap.size + 1, 4, none⟩ = some (.int .i64 0) := cell_of_row _ _ _ _ _ (0, 0) HB1.out.r1
  have c1_5 : w1.cell? ⟨w.heap.size + 1, 5, none⟩ = some (.int .i64 0) := cell_of_row _ _ _ _ _ (0, 0) HB1.out.r1
  go_wp2_with (with_reducible show wpList _ _ _ (Oper.mk _ (.store 23 _ _) _ _ _ _ :: _) _ _; refine Hid.out ?_)
  refine Lib.hid ?_
  refine wpList_put rfl 23 _ _ rfl (w.heap.size + 1) #[.int .i64 fl, .int .i64 fl, .int .i64 0, .int .i64 2, .int .i64 0, .int .i64 0] _ 23 rfl rfl HB1.out.r1 (by kernel_rfl) rfl (by kernel_rfl) ?_
  intro w2 hr2 hg2
  have HB2 : Hid (Bx w [(w.heap.size, .cells #[.int .i64 fl, .int .i64 fl, .int .i64 0, .int .i64 2, .int .i64 0, .int .i64 0] 23 (0, 0)), (w.heap.size + 1, .cells #[.int .i64 fl, .int .i64 fl, .int .i64 0, .int .i64 2, .int .i64 0, .int .i64 0] 23 (0, 0))] w2) := Lib.hid (HB1.out.put (by omega) hg2.out hr2.out (by simp only [List.mem_cons, List.not_mem_nil, or_false]; rintro p (rfl | rfl) <;> simp <;> omega))
  clear c0_0 c0_1 c0_2 c0_3 c0_4 c0_5 c1_0 c1_1 c1_2 c1_3 c1_4 c1_5 hr2 hg2 HB1
  go_wp2_with fail
  exact bodyPost_ret (results_cell_row Try.results21 _ _ _ _ _ (0, 0) _ rfl (HB2.out.r1) Try.underlying23 rfl (by kernel_rfl)) rfl (⟨rfl, HB2.out.below⟩)
set_option maxHeartbeats 8000000 in
theorem playS0_on (F fl am tk m t u T : Int) (w : World) (h : Rg.Ok F ⟨fl, fl, 0, 0, am, tk⟩) (hu : (if 10000 < t then (10000 : Int) else t) = u) (hT : (if 1 < u then u else 1) = T) (hT1 : 1 ≤ T ∧ T ≤ 10000) (ham : 1 ≤ am ∧ am ≤ 2) (htk : 1 ≤ tk ∧ tk ≤ 10000) (m1 : (m == 1) = false) (m2 : (m == 2) = false) (m3 : (m == 3) = false) (m4 : (m == 4) = false) (m5 : (m == 5) = false) :
    Calls Try.prog 21 #[.int .i64 F, Rg.agg ⟨fl, fl, 0, 0, am, tk⟩, .int .i64 m, .int .i64 t] w fun ee w' => ee = .returned (Rg.agg (Rg.shut ⟨fl, fl, 0, 0, am, tk - 1⟩ am)) ∧ Below w.heap.size w w' := by
  have FI := Lib.hid (fun wx => playIs_any F ⟨fl, fl, 0, 0, am, tk⟩ wx)
  rw [Rg.isB_iff.2 h] at FI
  have hF := h.fs
  have hfl := h.fl
  simp only at hfl
  clear h
  simp only [Rg.agg, Rg.shut] at *
  have hA0 : (am == 0) = false := by simp only [beq_eq_false_iff_ne, ne_eq]; omega
  have hA1 : ¬ am = 0 := by omega
  clear ham
  have hwk : IntKind.i64.wrap (tk - 1) = tk - 1 := by rw [IntKind.wrap_i64]; omega
  clear hF hfl
  by_cases hz : tk - 1 = 0
  · rw [if_pos hz]
    have hzB : (tk - 1 == 0) = true := by simpa using hz
    clear hz hT1
    have HB0 := Lib.hid (bxs2 w (.cells #[.int .i64 fl, .int .i64 fl, .int .i64 0, .int .i64 0, .int .i64 am, .int .i64 tk] 23) (.cells #[.int .i64 0, .int .i64 0, .int .i64 0, .int .i64 0, .int .i64 0, .int .i64 0] 23))
    go_enter Try.func21, Try.ntmps21
    go_wp2_with fail
    refine (FI.out _).mono ?_
    rintro e w1 ⟨rfl, hb1⟩
    have HB1 := Lib.hid (HB0.out.next hb1)
    clear hb1 HB0
    have c0_0 : w1.cell? ⟨w.heap.size, 0, none⟩ = some (.int .i64 fl) := cell_of_row _ _ _ _ _ (0, 0) HB1.out.r0
    have c0_1 : w1.cell? ⟨w.heap.size, 1, none⟩ = some (.int .i64 fl) := cell_of_row _ _ _ _ _ (0, 0) HB1.out.r0
    have c0_2 : w1.cell? ⟨w.heap.size, 2, none⟩ = some (.int .i64 0) := cell_of_row _ _ _ _ _ (0, 0) HB1.out.r0
    have c0_3 : w1.cell? ⟨w.heap.size, 3, none⟩ = some (.int .i64 0) := cell_of_row _ _ _ _ _ (0, 0) HB1.out.r0
    have c0_4 : w1.cell? ⟨w.heap.size, 4, none⟩ = some (.int .i64 am) := cell_of_row _ _ _ _ _ (0, 0) HB1.out.r0
    have c0_5 : w1.cell? ⟨w.heap.size, 5, none⟩ = some (.int .i64 tk) := cell_of_row _ _ _ _ _ (0, 0) HB1.out.r0
    have c1_0 : w1.cell? ⟨w.heap.size + 1, 0, none⟩ = some (.int .i64 0) := cell_of_row _ _ _ _ _ (0, 0) HB1.out.r1
    have c1_1 : w1.cell? ⟨w.heap.size + 1, 1, none⟩ = some (.int .i64 0) := cell_of_row _ _ _ _ _ (0, 0) HB1.out.r1
    have c1_2 : w1.cell? ⟨w.heap.size + 1, 2, none⟩ = some (.int .i64 0) := cell_of_row _ _ _ _ _ (0, 0) HB1.out.r1
    have c1_3 : w1.cell? ⟨w.heap.size + 1, 3, none⟩ = some (.int .i64 0) := cell_of_row _ _ _ _ _ (0, 0) HB1.out.r1
    have c1_4 : w1.cell? ⟨w.heap.size + 1, 4, none⟩ = some (.int .i64 0) := cell_of_row _ _ _ _ _ (0, 0) HB1.out.r1
    have c1_5 : w1.cell? ⟨w.heap.size + 1, 5, none⟩ = some (.int .i64 0) := cell_of_row _ _ _ _ _ (0, 0) HB1.out.r1
    go_wp2_with (with_reducible show wpList _ _ _ (Oper.mk _ (.store 3 _ _) _ _ _ _ :: _) _ _; refine Hid.out ?_)
    refine Lib.hid ?_
    refine wpList_putCell rfl 3 _ _ rfl (w.heap.size) 5 (.int .i64 (tk - 1)) _ _ 23 rfl rfl HB1.out.r0 (by kernel_rfl) (by simp) rfl rfl rfl ?_
    intro w2 hr2 hg2
    have HB2 : Hid (Bx w [(w.heap.size, .cells #[.int .i64 fl, .int .i64 fl, .int .i64 0, .int .i64 0, .int .i64 am, .int .i64 (tk - 1)] 23 (0, 0)), (w.heap.size + 1, .cells #[.int .i64 0, .int .i64 0, .int .i64 0, .int .i64 0, .int .i64 0, .int .i64 0] 23 (0, 0))] w2) := Lib.hid (HB1.out.put (by omega) hg2.out hr2.out (by simp only [List.mem_cons, List.not_mem_nil, or_false]; rintro p (rfl | rfl) <;> simp <;> omega))
    clear c0_0 c0_1 c0_2 c0_3 c0_4 c0_5 c1_0 c1_1 c1_2 c1_3 c1_4 c1_5 hr2 hg2 HB1
    have c0_0 : w2.cell? ⟨w.heap.size, 0, none⟩ = some (.int .i64 fl) := cell_of_row _ _ _ _ _ (0, 0) HB2.out.r0
    have c0_1 : w2.cell? ⟨w.heap.size, 1, none⟩ = some (.int .i64 fl) := cell_of_row _ _ _ _ _ (0, 0) HB2.out.r0
    have c0_2 : w2.cell? ⟨w.heap.size, 2, none⟩ = some (.int .i64 0) := cell_of_row _ _ _ _ _ (0, 0) HB2.out.r0
    have c0_3 : w2.cell? ⟨w.heap.size, 3, none⟩ = some (.int .i64 0) := cell_of_row _ _ _ _ _ (0, 0) HB2.out.r0
    have c0_4 : w2.cell? ⟨w.heap.size, 4, none⟩ = some (.int .i64 am) := cell_of_row _ _ _ _ _ (0, 0) HB2.out.r0
    have c0_5 : w2.cell? ⟨w.heap.size, 5, none⟩ = some (.int .i64 (tk - 1)) := cell_of_row _ _ _ _ _ (0, 0) HB2.out.r0
    have c1_0 : w2.cell? ⟨w.heap.size + 1, 0, none⟩ = some (.int .i64 0) := cell_of_row _ _ _ _ _ (0, 0) HB2.out.r1
    have c1_1 : w2.cell? ⟨w.heap.size + 1, 1, none⟩ = some (.int .i64 0) := cell_of_row _ _ _ _ _ (0, 0) HB2.out.r1
    have c1_2 : w2.cell? ⟨w.heap.size + 1, 2, none⟩ = some (.int .i64 0) := cell_of_row _ _ _ _ _ (0, 0) HB2.out.r1
    have c1_3 : w2.cell? ⟨w.heap.size + 1, 3, none⟩ = some (.int .i64 0) := cell_of_row _ _ _ _ _ (0, 0) HB2.out.r1
    have c1_4 : w2.cell? ⟨w.heap.size + 1, 4, none⟩ = some (.int .i64 0) := cell_of_row _ _ _ _ _ (0, 0) HB2.out.r1
    have c1_5 : w2.cell? ⟨w.heap.size + 1, 5, none⟩ = some (.int .i64 0) := cell_of_row _ _ _ _ _ (0, 0) HB2.out.r1
    go_wp2_with (with_reducible show wpList _ _ _ (Oper.mk _ (.store 3 _ _) _ _ _ _ :: _) _ _; refine Hid.out ?_)
    refine Lib.hid ?_
    refine wpList_putCell rfl 3 _ _ rfl (w.heap.size) 3 (.int .i64 am) _ _ 23 rfl rfl HB2.out.r0 (by kernel_rfl) (by simp) rfl rfl rfl ?_
    intro w3 hr3 hg3
    have HB3 : Hid (Bx w [(w.heap.size, .cells #[.int .i64 fl, .int .i64 fl, .int .i64 0, .int .i64 am, .int .i64 am, .int .i64 (tk - 1)] 23 (0, 0)), (w.heap.size + 1, .cells #[.int .i64 0, .int .i64 0, .int .i64 0, .int .i64 0, .int .i64 0, .int .i64 0] 23 (0, 0))] w3) := Lib.hid (HB2.out.put (by omega) hg3.out hr3.out (by simp only [List.mem_cons, List.not_mem_nil, or_false]; rintro p (rfl | rfl) <;> simp <;> omega))
    clear c0_0 c0_1 c0_2 c0_3 c0_4 c0_5 c1_0 c1_1 c1_2 c1_3 c1_4 c1_5 hr3 hg3 HB2
    have c0_0 : w3.cell? ⟨w.heap.size, 0, none⟩ = some (.int .i64 fl) := cell_of_row _ _ _ _ _ (0, 0) HB3.out.r0
    have c0_1 : w3.cell? ⟨w.heap.size, 1, none⟩ = some (.int .i64 fl) := cell_of_row _ _ _ _ _ (0, 0) HB3.out.r0
    have c0_2 : w3.cell? ⟨w.heap.size, 2, none⟩ = some (.int .i64 0) := cell_of_row _ _ _ _ _ (0, 0) HB3.out.r0
    have c0_3 : w3.cell? ⟨w.heap.size, 3, none⟩ = some (.int .i64 am) := cell_of_row _ _ _ _ _ (0, 0) HB3.out.r0
    have c0_4 : w3.cell? ⟨w.heap.size, 4, none⟩ = some (.int .i64 am) := cell_of_row _ _ _ _ _ (0, 0) HB3.out.r0
    have c0_5 : w3.cell? ⟨w.heap.size, 5, none⟩ = some (.int .i64 (tk - 1)) := cell_of_row _ _ _ _ _ (0, 0) HB3.out.r0
    have c1_0 : w3.cell? ⟨w.heap.size + 1, 0, none⟩ = some (.int .i64 0) := cell_of_row _ _ _ _ _ (0, 0) HB3.out.r1
    have c1_1 : w3.cell? ⟨w.heap.size + 1, 1, none⟩ = some (.int .i64 0) := cell_of_row _ _ _ _ _ (0, 0) HB3.out.r1
    have c1_2 : w3.cell? ⟨w.heap.size + 1, 2, none⟩ = some (.int .i64 0) := cell_of_row _ _ _ _ _ (0, 0) HB3.out.r1
    have c1_3 : w3.cell? ⟨w.heap.size + 1, 3, none⟩ = some (.int .i64 0) := cell_of_row _ _ _ _ _ (0, 0) HB3.out.r1
    have c1_4 : w3.cell? ⟨w.heap.size + 1, 4, none⟩ = some (.int .i64 0) := cell_of_row _ _ _ _ _ (0, 0) HB3.out.r1
    have c1_5 : w3.cell? ⟨w.heap.size + 1, 5, none⟩ = some (.int .i64 0) := cell_of_row _ _ _ _ _ (0, 0) HB3.out.r1
    go_wp2_with (with_reducible show wpList _ _ _ (Oper.mk _ (.store 3 _ _) _ _ _ _ :: _) _ _; refine Hid.out ?_)
    refine Lib.hid ?_
    refine wpList_putCell rfl 3 _ _ rfl (w.heap.size) 4 (.int .i64 0) _ _ 23 rfl rfl HB3.out.r0 (by kernel_rfl) (by simp) rfl rfl rfl ?_
    intro w4 hr4 hg4
    have HB4 : Hid (Bx w [(w.heap.size, .cells #[.int .i64 fl, .int .i64 fl, .int .i64 0, .int .i64 am, .int .i64 0, .int .i64 (tk - 1)] 23 (0, 0)), (w.heap.size + 1, .cells #[.int .i64 0, .int .i64 0, .int .i64 0, .int .i64 0, .int .i64 0, .int .i64 0] 23 (0, 0))] w4) := Lib.hid (HB3.out.put (by omega) hg4.out hr4.out (by simp only [List.mem_cons, List.not_mem_nil, or_false]; rintro p (rfl | rfl) <;> simp <;> omega))
    clear c0_0 c0_1 c0_2 c0_3 c0_4 c0_5 c1_0 c1_1 c1_2 c1_3 c1_4 c1_5 hr4 hg4 HB3
    have c0_0 : w4.cell? ⟨w.heap.size, 0, none⟩ = some (.int .i64 fl) := cell_of_row _ _ _ _ _ (0, 0) HB4.out.r0
    have c0_1 : w4.cell? ⟨w.heap.size, 1, none⟩ = some (.int .i64 fl) := cell_of_row _ _ _ _ _ (0, 0) HB4.out.r0
    have c0_2 : w4.cell? ⟨w.heap.size, 2, none⟩ = some (.int .i64 0) := cell_of_row _ _ _ _ _ (0, 0) HB4.out.r0
    have c0_3 : w4.cell? ⟨w.heap.size, 3, none⟩ = some (.int .i64 am) := cell_of_row _ _ _ _ _ (0, 0) HB4.out.r0
    have c0_4 : w4.cell? ⟨w.heap.size, 4, none⟩ = some (.int .i64 0) := cell_of_row _ _ _ _ _ (0, 0) HB4.out.r0
    have c0_5 : w4.cell? ⟨w.heap.size, 5, none⟩ = some (.int .i64 (tk - 1)) := cell_of_row _ _ _ _ _ (0, 0) HB4.out.r0
    have c1_0 : w4.cell? ⟨w.heap.size + 1, 0, none⟩ = some (.int .i64 0) := cell_of_row _ _ _ _ _ (0, 0) HB4.out.r1
    have c1_1 : w4.cell? ⟨w.heap.size + 1, 1, none⟩ = some (.int .i64 0) := cell_of_row _ _ _ _ _ (0, 0) HB4.out.r1
    have c1_2 : w4.cell? ⟨w.heap.size + 1, 2, none⟩ = some (.int .i64 0) := cell_of_row _ _ _ _ _ (0, 0) HB4.out.r1
    have c1_3 : w4.cell? ⟨w.heap.size + 1, 3, none⟩ = some (.int .i64 0) := cell_of_row _ _ _ _ _ (0, 0) HB4.out.r1
    have c1_4 : w4.cell? ⟨w.heap.size + 1, 4, none⟩ = some (.int .i64 0) := cell_of_row _ _ _ _ _ (0, 0) HB4.out.r1
    have c1_5 : w4.cell? ⟨w.heap.size + 1, 5, none⟩ = some (.int .i64 0) := cell_of_row _ _ _ _ _ (0, 0) HB4.out.r1
    go_wp2_with (with_reducible show wpList _ _ _ (Oper.mk _ (.store 23 _ _) _ _ _ _ :: _) _ _; refine Hid.out ?_)
    refine Lib.hid ?_
    refine wpList_put rfl 23 _ _ rfl (w.heap.size + 1) #[.int .i64 fl, .int .i64 fl, .int .i64 0, .int .i64 am, .int .i64 0, .int .i64 (tk - 1)] _ 23 rfl rfl HB4.out.r1 (by kernel_rfl) rfl (by kernel_rfl) ?_
    intro w5 hr5 hg5
    have HB5 : Hid (Bx w [(w.heap.size, .cells #[.int .i64 fl, .int .i64 fl, .int .i64 0, .int .i64 am, .int .i64 0, .int .i64 (tk - 1)] 23 (0, 0)), (w.heap.size + 1, .cells #[.int .i64 fl, .int .i64 fl, .int .i64 0, .int .i64 am, .int .i64 0, .int .i64 (tk - 1)] 23 (0, 0))] w5) := Lib.hid (HB4.out.put (by omega) hg5.out hr5.out (by simp only [List.mem_cons, List.not_mem_nil, or_false]; rintro p (rfl | rfl) <;> simp <;> omega))
    clear c0_0 c0_1 c0_2 c0_3 c0_4 c0_5 c1_0 c1_1 c1_2 c1_3 c1_4 c1_5 hr5 hg5 HB4
    go_wp2_with fail
    exact bodyPost_ret (results_cell_row Try.results21 _ _ _ _ _ (0, 0) _ rfl (HB5.out.r1) Try.underlying23 rfl (by kernel_rfl)) rfl (⟨rfl, HB5.out.below⟩)
  · rw [if_neg hz]
    have hzB : (tk - 1 == 0) = false := by simpa using hz
    clear hz hT1
    have HB0 := Lib.hid (bxs2 w (.cells #[.int .i64 fl, .int .i64 fl, .int .i64 0, .int .i64 0, .int .i64 am, .int .i64 tk] 23) (.cells #[.int .i64 0, .int .i64 0, .int .i64 0, .int .i64 0, .int .i64 0, .int .i64 0] 23))
    go_enter Try.func21, Try.ntmps21
    go_wp2_with fail
    refine (FI.out _).mono ?_
    rintro e w1 ⟨rfl, hb1⟩
    have HB1 := Lib.hid (HB0.out.next hb1)
    clear hb1 HB0
    have c0_0 : w1.cell? ⟨w.heap.size, 0, none⟩ = some (.int .i64 fl) := cell_of_row _ _ _ _ _ (0, 0) HB1.out.r0
    have c0_1 : w1.cell? ⟨w.heap.size, 1, none⟩ = some (.int .i64 fl) := cell_of_row _ _ _ _ _ (0, 0) HB1.out.r0
    have c0_2 : w1.cell? ⟨w.heap.size, 2, none⟩ = some (.int .i64 0) := cell_of_row _ _ _ _ _ (0, 0) HB1.out.r0
    have c0_3 : w1.cell? ⟨w.heap.size, 3, none⟩ = some (.int .i64 0) := cell_of_row _ _ _ _ _ (0, 0) HB1.out.r0
    have c0_4 : w1.cell? ⟨w.heap.size, 4, none⟩ = some (.int .i64 am) := cell_of_row _ _ _ _ _ (0, 0) HB1.out.r0
    have c0_5 : w1.cell? ⟨w.heap.size, 5, none⟩ = some (.int .i64 tk) := cell_of_row _ _ _ _ _ (0, 0) HB1.out.r0
    have c1_0 : w1.cell? ⟨w.heap.size + 1, 0, none⟩ = some (.int .i64 0) := cell_of_row _ _ _ _ _ (0, 0) HB1.out.r1
    have c1_1 : w1.cell? ⟨w.heap.size + 1, 1, none⟩ = some (.int .i64 0) := cell_of_row _ _ _ _ _ (0, 0) HB1.out.r1
    have c1_2 : w1.cell? ⟨w.heap.size + 1, 2, none⟩ = some (.int .i64 0) := cell_of_row _ _ _ _ _ (0, 0) HB1.out.r1
    have c1_3 : w1.cell? ⟨w.heap.size + 1, 3, none⟩ = some (.int .i64 0) := cell_of_row _ _ _ _ _ (0, 0) HB1.out.r1
    have c1_4 : w1.cell? ⟨w.heap.size + 1, 4, none⟩ = some (.int .i64 0) := cell_of_row _ _ _ _ _ (0, 0) HB1.out.r1
    have c1_5 : w1.cell? ⟨w.heap.size + 1, 5, none⟩ = some (.int .i64 0) := cell_of_row _ _ _ _ _ (0, 0) HB1.out.r1
    go_wp2_with (with_reducible show wpList _ _ _ (Oper.mk _ (.store 3 _ _) _ _ _ _ :: _) _ _; refine Hid.out ?_)
    refine Lib.hid ?_
    refine wpList_putCell rfl 3 _ _ rfl (w.heap.size) 5 (.int .i64 (tk - 1)) _ _ 23 rfl rfl HB1.out.r0 (by kernel_rfl) (by simp) rfl rfl rfl ?_
    intro w2 hr2 hg2
    have HB2 : Hid (Bx w [(w.heap.size, .cells #[.int .i64 fl, .int .i64 fl, .int .i64 0, .int .i64 0, .int .i64 am, .int .i64 (tk - 1)] 23 (0, 0)), (w.heap.size + 1, .cells #[.int .i64 0, .int .i64 0, .int .i64 0, .int .i64 0, .int .i64 0, .int .i64 0] 23 (0, 0))] w2) := Lib.hid (HB1.out.put (by omega) hg2.out hr2.out (by simp only [List.mem_cons, List.not_mem_nil, or_false]; rintro p (rfl | rfl) <;> simp <;> omega))
    clear c0_0 c0_1 c0_2 c0_3 c0_4 c0_5 c1_0 c1_1 c1_2 c1_3 c1_4 c1_5 hr2 hg2 HB1
    have c0_0 : w2.cell? ⟨w.heap.size, 0, none⟩ = some (.int .i64 fl) := cell_of_row _ _ _ _ _ (0, 0) HB2.out.r0
    have c0_1 : w2.cell? ⟨w.heap.size, 1, none⟩ = some (.int .i64 fl) := cell_of_row _ _ _ _ _ (0, 0) HB2.out.r0
    have c0_2 : w2.cell? ⟨w.heap.size, 2, none⟩ = some (.int .i64 0) := cell_of_row _ _ _ _ _ (0, 0) HB2.out.r0
    have c0_3 : w2.cell? ⟨w.heap.size, 3, none⟩ = some (.int .i64 0) := cell_of_row _ _ _ _ _ (0, 0) HB2.out.r0
    have c0_4 : w2.cell? ⟨w.heap.size, 4, none⟩ = some (.int .i64 am) := cell_of_row _ _ _ _ _ (0, 0) HB2.out.r0
    have c0_5 : w2.cell? ⟨w.heap.size, 5, none⟩ = some (.int .i64 (tk - 1)) := cell_of_row _ _ _ _ _ (0, 0) HB2.out.r0
    have c1_0 : w2.cell? ⟨w.heap.size + 1, 0, none⟩ = some (.int .i64 0) := cell_of_row _ _ _ _ _ (0, 0) HB2.out.r1
    have c1_1 : w2.cell? ⟨w.heap.size + 1, 1, none⟩ = some (.int .i64 0) := cell_of_row _ _ _ _ _ (0, 0) HB2.out.r1
    have c1_2 : w2.cell? ⟨w.heap.size + 1, 2, none⟩ = some (.int .i64 0) := cell_of_row _ _ _ _ _ (0, 0) HB2.out.r1
    have c1_3 : w2.cell? ⟨w.heap.size + 1, 3, none⟩ = some (.int .i64 0) := cell_of_row _ _ _ _ _ (0, 0) HB2.out.r1
    have c1_4 : w2.cell? ⟨w.heap.size + 1, 4, none⟩ = some (.int .i64 0) := cell_of_row _ _ _ _ _ (0, 0) HB2.out.r1
    have c1_5 : w2.cell? ⟨w.heap.size + 1, 5, none⟩ = some (.int .i64 0) := cell_of_row _ _ _ _ _ (0, 0) HB2.out.r1
    go_wp2_with (with_reducible show wpList _ _ _ (Oper.mk _ (.store 23 _ _) _ _ _ _ :: _) _ _; refine Hid.out ?_)
    refine Lib.hid ?_
    refine wpList_put rfl 23 _ _ rfl (w.heap.size + 1) #[.int .i64 fl, .int .i64 fl, .int .i64 0, .int .i64 0, .int .i64 am, .int .i64 (tk - 1)] _ 23 rfl rfl HB2.out.r1 (by kernel_rfl) rfl (by kernel_rfl) ?_
    intro w3 hr3 hg3
    have HB3 : Hid (Bx w [(w.heap.size, .cells #[.int .i64 fl, .int .i64 fl, .int .i64 0, .int .i64 0, .int .i64 am, .int .i64 (tk - 1)] 23 (0, 0)), (w.heap.size + 1, .cells #[.int .i64 fl, .int .i64 fl, .int .i64 0, .int .i64 0, .int .i64 am, .int .i64 (tk - 1)] 23 (0, 0))] w3) := Lib.hid (HB2.out.put (by omega) hg3.out hr3.out (by simp only [List.mem_cons, List.not_mem_nil, or_false]; rintro p (rfl | rfl) <;> simp <;> omega))
    clear c0_0 c0_1 c0_2 c0_3 c0_4 c0_5 c1_0 c1_1 c1_2 c1_3 c1_4 c1_5 hr3 hg3 HB2
    go_wp2_with fail
    exact bodyPost_ret (results_cell_row Try.results21 _ _ _ _ _ (0, 0) _ rfl (HB3.out.r1) Try.underlying23 rfl (by kernel_rfl)) rfl (⟨rfl, HB3.out.below⟩)
set_option maxHeartbeats 8000000 in
theorem playS1_open (F fl t u T : Int) (w : World) (h : Rg.Ok F ⟨fl, fl, 0, 1, 0, 0⟩) (hu : (if 10000 < t then (10000 : Int) else t) = u) (hT : (if 1 < u then u else 1) = T) (hT1 : 1 ≤ T ∧ T ≤ 10000) :
    Calls Try.prog 21 #[.int .i64 F, Rg.agg ⟨fl, fl, 0, 1, 0, 0⟩, .int .i64 1, .int .i64 t] w fun ee w' => ee = .returned (Rg.agg ((⟨fl, fl, 0, 1, 0, 0⟩ : Rg))) ∧ Below w.heap.size w w' := by
  have FI := Lib.hid (fun wx => playIs_any F ⟨fl, fl, 0, 1, 0, 0⟩ wx)
  rw [Rg.isB_iff.2 h] at FI
  have hF := h.fs
  have hfl := h.fl
  simp only at hfl
  clear h
  simp only [Rg.agg, Rg.shut] at *
  have hw3 : IntKind.i64.wrap (fl + 1) = fl + 1 := by rw [IntKind.wrap_i64]; omega
  clear hF hfl
  clear hT1
  have HB0 := Lib.hid (bxs2 w (.cells #[.int .i64 fl, .int .i64 fl, .int .i64 0, .int .i64 1, .int .i64 0, .int .i64 0] 23) (.cells #[.int .i64 0, .int .i64 0, .int .i64 0, .int .i64 0, .int .i64 0, .int .i64 0] 23))
  go_enter Try.func21, Try.ntmps21
  go_wp2_with fail
  refine (FI.out _).mono ?_
  rintro e w1 ⟨rfl, hb1⟩
  have HB1 := Lib.hid (HB0.out.next hb1)
  clear hb1 HB0
  have c0_0 : w1.cell? ⟨w.heap.size, 0, none⟩ = some (.int .i64 fl) := cell_of_row _ _ _ _ _ (0, 0) HB1.out.r0
  have c0_1 : w1.cell? ⟨w.heap.size, 1, none⟩ = some (.int .i64 fl) := cell_of_row _ _ _ _ _ (0, 0) HB1.out.r0
  have c0_2 : w1.cell? ⟨w.heap.size, 2, none⟩ = some (.int .i64 0) := cell_of_row _ _ _ _ _ (0, 0) HB1.out.r0
  have c0_3 : w1.cell? ⟨w.heap.size, 3, none⟩ = some (.int .i64 1) := cell_of_row _ _ _ _ _ (0, 0) HB1.out.r0
  have c0_4 : w1.cell? ⟨w.heap.size, 4, none⟩ = some (.int .i64 0) := cell_of_row _ _ _ _ _ (0, 0) HB1.out.r0
  have c0_5 : w1.cell? ⟨w.heap.size, 5, none⟩ = some (.int .i64 0) := cell_of_row _ _ _ _ _ (0, 0) HB1.out.r0
  have c1_0 : w1.cell? ⟨w.heap.size + 1, 0, none⟩ = some (.int .i64 0) := cell_of_row _ _ _ _ _ (0, 0) HB1.out.r1
  have c1_1 : w1.cell? ⟨w.heap.size + 1, 1, none⟩ = some (.int .i64 0) := cell_of_row _ _ _ _ _ (0, 0) HB1.out.r1
  have c1_2 : w1.cell? ⟨w.heap.size + 1, 2, none⟩ = some (.int .i64 0) := cell_of_row _ _ _ _ _ (0, 0) HB1.out.r1
  have c1_3 : w1.cell? ⟨w.heap.size + 1, 3, none⟩ = some (.int .i64 0) := cell_of_row _ _ _ _ _ (0, 0) HB1.out.r1
  have c1_4 : w1.cell? ⟨w.heap.size + 1, 4, none⟩ = some (.int .i64 0) := cell_of_row _ _ _ _ _ (0, 0) HB1.out.r1
  have c1_5 : w1.cell? ⟨w.heap.size + 1, 5, none⟩ = some (.int .i64 0) := cell_of_row _ _ _ _ _ (0, 0) HB1.out.r1
  go_wp2_with (with_reducible show wpList _ _ _ (Oper.mk _ (.store 23 _ _) _ _ _ _ :: _) _ _; refine Hid.out ?_)
  refine Lib.hid ?_
  refine wpList_put rfl 23 _ _ rfl (w.heap.size + 1) #[.int .i64 fl, .int .i64 fl, .int .i64 0, .int .i64 1, .int .i64 0, .int .i64 0] _ 23 rfl rfl HB1.out.r1 (by kernel_rfl) rfl (by kernel_rfl) ?_
  intro w2 hr2 hg2
  have HB2 : Hid (Bx w [(w.heap.size, .cells #[.int .i64 fl, .int .i64 fl, .int .i64 0, .int .i64 1, .int .i64 0, .int .i64 0] 23 (0, 0)), (w.heap.size + 1, .cells #[.int .i64 fl, .int .i64 fl, .int .i64 0, .int .i64 1, .int .i64 0, .int .i64 0] 23 (0, 0))] w2) := Lib.hid (HB1.out.put (by omega) hg2.out hr2.out (by simp only [List.mem_cons, List.not_mem_nil, or_false]; rintro p (rfl | rfl) <;> simp <;> omega))
  clear c0_0 c0_1 c0_2 c0_3 c0_4 c0_5 c1_0 c1_1 c1_2 c1_3 c1_4 c1_5 hr2 hg2 HB1
  go_wp2_with fail
  exact bodyPost_ret (results_cell_row Try.results21 _ _ _ _ _ (0, 0) _ rfl (HB2.out.r1) Try.underlying23 rfl (by kernel_rfl)) rfl (⟨rfl, HB2.out.below⟩)
set_option maxHeartbeats 8000000 in
theorem playS1_out (F fl t u T : Int) (w : World) (h : Rg.Ok F ⟨fl, fl, 0, 2, 0, 0⟩) (hu : (if 10000 < t then (10000 : Int) else t) = u) (hT : (if 1 < u then u else 1) = T) (hT1 : 1 ≤ T ∧ T ≤ 10000) (hout : ¬ (0 ≤ fl + 1 ∧ fl + 1 ≤ F - 1)) :
    Calls Try.prog 21 #[.int .i64 F, Rg.agg ⟨fl, fl, 0, 2, 0, 0⟩, .int .i64 1, .int .i64 t] w fun ee w' => ee = .returned (Rg.agg ((⟨fl, fl, 0, 2, 0, 0⟩ : Rg))) ∧ Below w.heap.size w w' := by
  have FI := Lib.hid (fun wx => playIs_any F ⟨fl, fl, 0, 2, 0, 0⟩ wx)
  rw [Rg.isB_iff.2 h] at FI
  have hF := h.fs
  have hfl := h.fl
  simp only at hfl
  clear h
  simp only [Rg.agg, Rg.shut] at *
  have hw3 : IntKind.i64.wrap (fl + 1) = fl + 1 := by rw [IntKind.wrap_i64]; omega
  have hw1 : IntKind.i64.wrap (F - 1) = F - 1 := by rw [IntKind.wrap_i64]; omega
  have hne : ((fl + 1) != fl) = true := by simp only [bne_iff_ne, ne_eq]; omega
  have FN := Lib.hid (fun wx => playIn_any (fl + 1) 0 (F - 1) wx)
  rw [Nc.wi_no hout] at FN
  clear hout
  clear hF hfl
  clear hT1
  have HB0 := Lib.hid (bxs2 w (.cells #[.int .i64 fl, .int .i64 fl, .int .i64 0, .int .i64 2, .int .i64 0, .int .i64 0] 23) (.cells #[.int .i64 0, .int .i64 0, .int .i64 0, .int .i64 0, .int .i64 0, .int .i64 0] 23))
  go_enter Try.func21, Try.ntmps21
  go_wp2_with fail
  refine (FI.out _).mono ?_
  rintro e w1 ⟨rfl, hb1⟩
  have HB1 := Lib.hid (HB0.out.next hb1)
  clear hb1 HB0
  have c0_0 : w1.cell? ⟨w.heap.size, 0, none⟩ = some (.int .i64 fl) := cell_of_row _ _ _ _ _ (0, 0) HB1.out.r0
  have c0_1 : w1.cell? ⟨w.heap.size, 1, none⟩ = some (.int .i64 fl) := cell_of_row _ _ _ _ _ (0, 0) HB1.out.r0
  have c0_2 : w1.cell? ⟨w.heap.size, 2, none⟩ = some (.int .i64 0) := cell_of_row _ _ _ _ _ (0, 0) HB1.out.r0
  have c0_3 : w1.cell? ⟨w.heap.size, 3, none⟩ = some (.int .i64 2) := cell_of_row _ _ _ _ _ (0, 0) HB1.out.r0
  have c0_4 : w1.cell? ⟨w.heap.size, 4, none⟩ = some (.int .i64 0) := cell_of_row _ _ _ _ _ (0, 0) HB1.out.r0
  have c0_5 : w1.cell? ⟨w.heap.size, 5, none⟩ = some (.int .i64 0) := cell_of_row _ _ _ _ _ (0, 0) HB1.out.r0
  have c1_0 : w1.cell? ⟨w.heap.size + 1, 0, none⟩ = some (.int .i64 0) := cell_of_row _ _ _ _ _ (0, 0) HB1.out.r1
  have c1_1 : w1.cell? ⟨w.heap.size + 1, 1, none⟩ = some (.int .i64 0) := cell_of_row _ _ _ _ _ (0, 0) HB1.out.r1
  have c1_2 : w1.cell? ⟨w.heap.size + 1, 2, none⟩ = some (.int .i64 0) := cell_of_row _ _ _ _ _ (0, 0) HB1.out.r1
  have c1_3 : w1.cell? ⟨w.heap.size + 1, 3, none⟩ = some (.int .i64 0) := cell_of_row _ _ _ _ _ (0, 0) HB1.out.r1
  have c1_4 : w1.cell? ⟨w.heap.size + 1, 4, none⟩ = some (.int .i64 0) := cell_of_row _ _ _ _ _ (0, 0) HB1.out.r1
  have c1_5 : w1.cell? ⟨w.heap.size + 1, 5, none⟩ = some (.int .i64 0) := cell_of_row _ _ _ _ _ (0, 0) HB1.out.r1
  go_wp2_with fail
  refine (FN.out _).mono ?_
  rintro e w2 ⟨rfl, hb2⟩
  have HB2 := Lib.hid (HB1.out.next hb2)
  clear c0_0 c0_1 c0_2 c0_3 c0_4 c0_5 c1_0 c1_1 c1_2 c1_3 c1_4 c1_5 hb2 HB1
  have c0_0 : w2.cell? ⟨w.heap.size, 0, none⟩ = some (.int .i64 fl) := cell_of_row _ _ _ _ _ (0, 0) HB2.out.r0
  have c0_1 : w2.cell? ⟨w.heap.size, 1, none⟩ = some (.int .i64 fl) := cell_of_row _ _ _ _ _ (0, 0) HB2.out.r0
  have c0_2 : w2.cell? ⟨w.heap.size, 2, none⟩ = some (.int .i64 0) := cell_of_row _ _ _ _ _ (0, 0) HB2.out.r0
  have c0_3 : w2.cell? ⟨w.heap.size, 3, none⟩ = some (.int .i64 2) := cell_of_row _ _ _ _ _ (0, 0) HB2.out.r0
  have c0_4 : w2.cell? ⟨w.heap.size, 4, none⟩ = some (.int .i64 0) := cell_of_row _ _ _ _ _ (0, 0) HB2.out.r0
  have c0_5 : w2.cell? ⟨w.heap.size, 5, none⟩ = some (.int .i64 0) := cell_of_row _ _ _ _ _ (0, 0) HB2.out.r0
  have c1_0 : w2.cell? ⟨w.heap.size + 1, 0, none⟩ = some (.int .i64 0) := cell_of_row _ _ _ _ _ (0, 0) HB2.out.r1
  have c1_1 : w2.cell? ⟨w.heap.size + 1, 1, none⟩ = some (.int .i64 0) := cell_of_row _ _ _ _ _ (0, 0) HB2.out.r1
  have c1_2 : w2.cell? ⟨w.heap.size + 1, 2, none⟩ = some (.int .i64 0) := cell_of_row _ _ _ _ _ (0, 0) HB2.out.r1
  have c1_3 : w2.cell? ⟨w.heap.size + 1, 3, none⟩ = some (.int .i64 0) := cell_of_row _ _ _ _ _ (0, 0) HB2.out.r1
  have c1_4 : w2.cell? ⟨w.heap.size + 1, 4, none⟩ = some (.int .i64 0) := cell_of_row _ _ _ _ _ (0, 0) HB2.out.r1
  have c1_5 : w2.cell? ⟨w.heap.size + 1, 5, none⟩ = some (.int .i64 0) := cell_of_row _ _ _ _ _ (0, 0) HB2.out.r1
  go_wp2_with (with_reducible show wpList _ _ _ (Oper.mk _ (.store 23 _ _) _ _ _ _ :: _) _ _; refine Hid.out ?_)
  refine Lib.hid ?_
  refine wpList_put rfl 23 _ _ rfl (w.heap.size + 1) #[.int .i64 fl, .int .i64 fl, .int .i64 0, .int .i64 2, .int .i64 0, .int .i64 0] _ 23 rfl rfl HB2.out.r1 (by kernel_rfl) rfl (by kernel_rfl) ?_
  intro w3 hr3 hg3
  have HB3 : Hid (Bx w [(w.heap.size, .cells #[.int .i64 fl, .int .i64 fl, .int .i64 0, .int .i64 2, .int .i64 0, .int .i64 0] 23 (0, 0)), (w.heap.size + 1, .cells #[.int .i64 fl, .int .i64 fl, .int .i64 0, .int .i64 2, .int .i64 0, .int .i64 0] 23 (0, 0))] w3) := Lib.hid (HB2.out.put (by omega) hg3.out hr3.out (by simp only [List.mem_cons, List.not_mem_nil, or_false]; rintro p (rfl | rfl) <;> simp <;> omega))
  clear c0_0 c0_1 c0_2 c0_3 c0_4 c0_5 c1_0 c1_1 c1_2 c1_3 c1_4 c1_5 hr3 hg3 HB2
  go_wp2_with fail
  exact bodyPost_ret (results_cell_row Try.results21 _ _ _ _ _ (0, 0) _ rfl (HB3.out.r1) Try.underlying23 rfl (by kernel_rfl)) rfl (⟨rfl, HB3.out.below⟩)
set_option maxHeartbeats 8000000 in
theorem playS1_on (F fl am tk t u T : Int) (w : World) (h : Rg.Ok F ⟨fl, fl, 0, 0, am, tk⟩) (hu : (if 10000 < t then (10000 : Int) else t) = u) (hT : (if 1 < u then u else 1) = T) (hT1 : 1 ≤ T ∧ T ≤ 10000) (ham : 1 ≤ am ∧ am ≤ 2) (htk : 1 ≤ tk ∧ tk ≤ 10000) :
    Calls Try.prog 21 #[.int .i64 F, Rg.agg ⟨fl, fl, 0, 0, am, tk⟩, .int .i64 1, .int .i64 t] w fun ee w' => ee = .returned (Rg.agg (Rg.shut ⟨fl, fl, 0, 0, am, tk - 1⟩ am)) ∧ Below w.heap.size w w' := by
  have FI := Lib.hid (fun wx => playIs_any F ⟨fl, fl, 0, 0, am, tk⟩ wx)
  rw [Rg.isB_iff.2 h] at FI
  have hF := h.fs
  have hfl := h.fl
  simp only at hfl
  clear h
  simp only [Rg.agg, Rg.shut] at *
  have hw3 : IntKind.i64.wrap (fl + 1) = fl + 1 := by rw [IntKind.wrap_i64]; omega
  have hA0 : (am == 0) = false := by simp only [beq_eq_false_iff_ne, ne_eq]; omega
  have hA1 : ¬ am = 0 := by omega
  clear ham
  have hwk : IntKind.i64.wrap (tk - 1) = tk - 1 := by rw [IntKind.wrap_i64]; omega
  clear hF hfl
  by_cases hz : tk - 1 = 0
  · rw [if_pos hz]
    have hzB : (tk - 1 == 0) = true := by simpa using hz
    clear hz hT1
    have HB0 := Lib.hid (bxs2 w (.cells #[.int .i64 fl, .int .i64 fl, .int .i64 0, .int .i64 0, .int .i64 am, .int .i64 tk] 23) (.cells #[.int .i64 0, .int .i64 0, .int .i64 0, .int .i64 0, .int .i64 0, .int .i64 0] 23))
    go_enter Try.func21, Try.ntmps21
    go_wp2_with fail
    refine (FI.out _).mono ?_
    rintro e w1 ⟨rfl, hb1⟩
    have HB1 := Lib.hid (HB0.out.next hb1)
    clear hb1 HB0
    have c0_0 : w1.cell? ⟨w.heap.size, 0, none⟩ = some (.int .i64 fl) := cell_of_row _ _ _ _ _ (0, 0) HB1.out.r0
    have c0_1 : w1.cell? ⟨w.heap.size, 1, none⟩ = some (.int .i64 fl) := cell_of_row _ _ _ _ _ (0, 0) HB1.out.r0
    have c0_2 : w1.cell? ⟨w.heap.size, 2, none⟩ = some (.int .i64 0) := cell_of_row _ _ _ _ _ (0, 0) HB1.out.r0
    have c0_3 : w1.cell? ⟨w.heap.size, 3, none⟩ = some (.int .i64 0) := cell_of_row _ _ _ _ _ (0, 0) HB1.out.r0
    have c0_4 : w1.cell? ⟨w.heap.size, 4, none⟩ = some (.int .i64 am) := cell_of_row _ _ _ _ _ (0, 0) HB1.out.r0
    have c0_5 : w1.cell? ⟨w.heap.size, 5, none⟩ = some (.int .i64 tk) := cell_of_row _ _ _ _ _ (0, 0) HB1.out.r0
    have c1_0 : w1.cell? ⟨w.heap.size + 1, 0, none⟩ = some (.int .i64 0) := cell_of_row _ _ _ _ _ (0, 0) HB1.out.r1
    have c1_1 : w1.cell? ⟨w.heap.size + 1, 1, none⟩ = some (.int .i64 0) := cell_of_row _ _ _ _ _ (0, 0) HB1.out.r1
    have c1_2 : w1.cell? ⟨w.heap.size + 1, 2, none⟩ = some (.int .i64 0) := cell_of_row _ _ _ _ _ (0, 0) HB1.out.r1
    have c1_3 : w1.cell? ⟨w.heap.size + 1, 3, none⟩ = some (.int .i64 0) := cell_of_row _ _ _ _ _ (0, 0) HB1.out.r1
    have c1_4 : w1.cell? ⟨w.heap.size + 1, 4, none⟩ = some (.int .i64 0) := cell_of_row _ _ _ _ _ (0, 0) HB1.out.r1
    have c1_5 : w1.cell? ⟨w.heap.size + 1, 5, none⟩ = some (.int .i64 0) := cell_of_row _ _ _ _ _ (0, 0) HB1.out.r1
    go_wp2_with (with_reducible show wpList _ _ _ (Oper.mk _ (.store 3 _ _) _ _ _ _ :: _) _ _; refine Hid.out ?_)
    refine Lib.hid ?_
    refine wpList_putCell rfl 3 _ _ rfl (w.heap.size) 5 (.int .i64 (tk - 1)) _ _ 23 rfl rfl HB1.out.r0 (by kernel_rfl) (by simp) rfl rfl rfl ?_
    intro w2 hr2 hg2
    have HB2 : Hid (Bx w [(w.heap.size, .cells #[.int .i64 fl, .int .i64 fl, .int .i64 0, .int .i64 0, .int .i64 am, .int .i64 (tk - 1)] 23 (0, 0)), (w.heap.size + 1, .cells #[.int .i64 0, .int .i64 0, .int .i64 0, .int .i64 0, .int .i64 0, .int .i64 0] 23 (0, 0))] w2) := Lib.hid (HB1.out.put (by omega) hg2.out hr2.out (by simp only [List.mem_cons, List.not_mem_nil, or_false]; rintro p (rfl | rfl) <;> simp <;> omega))
    clear c0_0 c0_1 c0_2 c0_3 c0_4 c0_5 c1_0 c1_1 c1_2 c1_3 c1_4 c1_5 hr2 hg2 HB1
    have c0_0 : w2.cell? ⟨w.heap.size, 0, none⟩ = some (.int .i64 fl) := cell_of_row _ _ _ _ _ (0, 0) HB2.out.r0
    have c0_1 : w2.cell? ⟨w.heap.size, 1, none⟩ = some (.int .i64 fl) := cell_of_row _ _ _ _ _ (0, 0) HB2.out.r0
    have c0_2 : w2.cell? ⟨w.heap.size, 2, none⟩ = some (.int .i64 0) := cell_of_row _ _ _ _ _ (0, 0) HB2.out.r0
    have c0_3 : w2.cell? ⟨w.heap.size, 3, none⟩ = some (.int .i64 0) := cell_of_row _ _ _ _ _ (0, 0) HB2.out.r0
    have c0_4 : w2.cell? ⟨w.heap.size, 4, none⟩ = some (.int .i64 am) := cell_of_row _ _ _ _ _ (0, 0) HB2.out.r0
    have c0_5 : w2.cell? ⟨w.heap.size, 5, none⟩ = some (.int .i64 (tk - 1)) := cell_of_row _ _ _ _ _ (0, 0) HB2.out.r0
    have c1_0 : w2.cell? ⟨w.heap.size + 1, 0, none⟩ = some (.int .i64 0) := cell_of_row _ _ _ _ _ (0, 0) HB2.out.r1
    have c1_1 : w2.cell? ⟨w.heap.size + 1, 1, none⟩ = some (.int .i64 0) := cell_of_row _ _ _ _ _ (0, 0) HB2.out.r1
    have c1_2 : w2.cell? ⟨w.heap.size + 1, 2, none⟩ = some (.int .i64 0) := cell_of_row _ _ _ _ _ (0, 0) HB2.out.r1
    have c1_3 : w2.cell? ⟨w.heap.size + 1, 3, none⟩ = some (.int .i64 0) := cell_of_row _ _ _ _ _ (0, 0) HB2.out.r1
    have c1_4 : w2.cell? ⟨w.heap.size + 1, 4, none⟩ = some (.int .i64 0) := cell_of_row _ _ _ _ _ (0, 0) HB2.out.r1
    have c1_5 : w2.cell? ⟨w.heap.size + 1, 5, none⟩ = some (.int .i64 0) := cell_of_row _ _ _ _ _ (0, 0) HB2.out.r1
    go_wp2_with (with_reducible show wpList _ _ _ (Oper.mk _ (.store 3 _ _) _ _ _ _ :: _) _ _; refine Hid.out ?_)
    refine Lib.hid ?_
    refine wpList_putCell rfl 3 _ _ rfl (w.heap.size) 3 (.int .i64 am) _ _ 23 rfl rfl HB2.out.r0 (by kernel_rfl) (by simp) rfl rfl rfl ?_
    intro w3 hr3 hg3
    have HB3 : Hid (Bx w [(w.heap.size, .cells #[.int .i64 fl, .int .i64 fl, .int .i64 0, .int .i64 am, .int .i64 am, .int .i64 (tk - 1)] 23 (0, 0)), (w.heap.size + 1, .cells #[.int .i64 0, .int .i64 0, .int .i64 0, .int .i64 0, .int .i64 0, .int .i64 0] 23 (0, 0))] w3) := Lib.hid (HB2.out.put (by omega) hg3.out hr3.out (by simp only [List.mem_cons, List.not_mem_nil, or_false]; rintro p (rfl | rfl) <;> simp <;> omega))
    clear c0_0 c0_1 c0_2 c0_3 c0_4 c0_5 c1_0 c1_1 c1_2 c1_3 c1_4 c1_5 hr3 hg3 HB2
    have c0_0 : w3.cell? ⟨w.heap.size, 0, none⟩ = some (.int .i64 fl) := cell_of_row _ _ _ _ _ (0, 0) HB3.out.r0
    have c0_1 : w3.cell? ⟨w.heap.size, 1, none⟩ = some (.int .i64 fl) := cell_of_row _ _ _ _ _ (0, 0) HB3.out.r0
    have c0_2 : w3.cell? ⟨w.heap.size, 2, none⟩ = some (.int .i64 0) := cell_of_row _ _ _ _ _ (0, 0) HB3.out.r0
    have c0_3 : w3.cell? ⟨w.heap.size, 3, none⟩ = some (.int .i64 am) := cell_of_row _ _ _ _ _ (0, 0) HB3.out.r0
    have c0_4 : w3.cell? ⟨w.heap.size, 4, none⟩ = some (.int .i64 am) := cell_of_row _ _ _ _ _ (0, 0) HB3.out.r0
    have c0_5 : w3.cell? ⟨w.heap.size, 5, none⟩ = some (.int .i64 (tk - 1)) := cell_of_row _ _ _ _ _ (0, 0) HB3.out.r0
    have c1_0 : w3.cell? ⟨w.heap.size + 1, 0, none⟩ = some (.int .i64 0) := cell_of_row _ _ _ _ _ (0, 0) HB3.out.r1
    have c1_1 : w3.cell? ⟨w.heap.size + 1, 1, none⟩ = some (.int .i64 0) := cell_of_row _ _ _ _ _ (0, 0) HB3.out.r1
    have c1_2 : w3.cell? ⟨w.heap.size + 1, 2, none⟩ = some (.int .i64 0) := cell_of_row _ _ _ _ _ (0, 0) HB3.out.r1
    have c1_3 : w3.cell? ⟨w.heap.size + 1, 3, none⟩ = some (.int .i64 0) := cell_of_row _ _ _ _ _ (0, 0) HB3.out.r1
    have c1_4 : w3.cell? ⟨w.heap.size + 1, 4, none⟩ = some (.int .i64 0) := cell_of_row _ _ _ _ _ (0, 0) HB3.out.r1
    have c1_5 : w3.cell? ⟨w.heap.size + 1, 5, none⟩ = some (.int .i64 0) := cell_of_row _ _ _ _ _ (0, 0) HB3.out.r1
    go_wp2_with (with_reducible show wpList _ _ _ (Oper.mk _ (.store 3 _ _) _ _ _ _ :: _) _ _; refine Hid.out ?_)
    refine Lib.hid ?_
    refine wpList_putCell rfl 3 _ _ rfl (w.heap.size) 4 (.int .i64 0) _ _ 23 rfl rfl HB3.out.r0 (by kernel_rfl) (by simp) rfl rfl rfl ?_
    intro w4 hr4 hg4
    have HB4 : Hid (Bx w [(w.heap.size, .cells #[.int .i64 fl, .int .i64 fl, .int .i64 0, .int .i64 am, .int .i64 0, .int .i64 (tk - 1)] 23 (0, 0)), (w.heap.size + 1, .cells #[.int .i64 0, .int .i64 0, .int .i64 0, .int .i64 0, .int .i64 0, .int .i64 0] 23 (0, 0))] w4) := Lib.hid (HB3.out.put (by omega) hg4.out hr4.out (by simp only [List.mem_cons, List.not_mem_nil, or_false]; rintro p (rfl | rfl) <;> simp <;> omega))
    clear c0_0 c0_1 c0_2 c0_3 c0_4 c0_5 c1_0 c1_1 c1_2 c1_3 c1_4 c1_5 hr4 hg4 HB3
    have c0_0 : w4.cell? ⟨w.heap.size, 0, none⟩ = some (.int .i64 fl) := cell_of_row _ _ _ _ _ (0, 0) HB4.out.r0
    have c0_1 : w4.cell? ⟨w.heap.size, 1, none⟩ = some (.int .i64 fl) := cell_of_row _ _ _ _ _ (0, 0) HB4.out.r0
    have c0_2 : w4.cell? ⟨w.heap.size, 2, none⟩ = some (.int .i64 0) := cell_of_row _ _ _ _ _ (0, 0) HB4.out.r0
    have c0_3 : w4.cell? ⟨w.heap.size, 3, none⟩ = some (.int .i64 am) := cell_of_row _ _ _ _ _ (0, 0) HB4.out.r0
    have c0_4 : w4.cell? ⟨w.heap.size, 4, none⟩ = some (.int .i64 0) := cell_of_row _ _ _ _ _ (0, 0) HB4.out.r0
    have c0_5 : w4.cell? ⟨w.heap.size, 5, none⟩ = some (.int .i64 (tk - 1)) := cell_of_row _ _ _ _ _ (0, 0) HB4.out.r0
    have c1_0 : w4.cell? ⟨w.heap.size + 1, 0, none⟩ = some (.int .i64 0) := cell_of_row _ _ _ _ _ (0, 0) HB4.out.r1
    have c1_1 : w4.cell? ⟨w.heap.size + 1, 1, none⟩ = some (.int .i64 0) := cell_of_row _ _ _ _ _ (0, 0) HB4.out.r1
    have c1_2 : w4.cell? ⟨w.heap.size + 1, 2, none⟩ = some (.int .i64 0) := cell_of_row _ _ _ _ _ (0, 0) HB4.out.r1
    have c1_3 : w4.cell? ⟨w.heap.size + 1, 3, none⟩ = some (.int .i64 0) := cell_of_row _ _ _ _ _ (0, 0) HB4.out.r1
    have c1_4 : w4.cell? ⟨w.heap.size + 1, 4, none⟩ = some (.int .i64 0) := cell_of_row _ _ _ _ _ (0, 0) HB4.out.r1
    have c1_5 : w4.cell? ⟨w.heap.size + 1, 5, none⟩ = some (.int .i64 0) := cell_of_row _ _ _ _ _ (0, 0) HB4.out.r1
    go_wp2_with (with_reducible show wpList _ _ _ (Oper.mk _ (.store 23 _ _) _ _ _ _ :: _) _ _; refine Hid.out ?_)
    refine Lib.hid ?_
    refine wpList_put rfl 23 _ _ rfl (w.heap.size + 1) #[.int .i64 fl, .int .i64 fl, .int .i64 0, .int .i64 am, .int .i64 0, .int .i64 (tk - 1)] _ 23 rfl rfl HB4.out.r1 (by kernel_rfl) rfl (by kernel_rfl) ?_
    intro w5 hr5 hg5
    have HB5 : Hid (Bx w [(w.heap.size, .cells #[.int .i64 fl, .int .i64 fl, .int .i64 0, .int .i64 am, .int .i64 0, .int .i64 (tk - 1)] 23 (0, 0)), (w.heap.size + 1, .cells #[.int .i64 fl, .int .i64 fl, .int .i64 0, .int .i64 am, .int .i64 0, .int .i64 (tk - 1)] 23 (0, 0))] w5) := Lib.hid (HB4.out.put (by omega) hg5.out hr5.out (by simp only [List.mem_cons, List.not_mem_nil, or_false]; rintro p (rfl | rfl) <;> simp <;> omega))
    clear c0_0 c0_1 c0_2 c0_3 c0_4 c0_5 c1_0 c1_1 c1_2 c1_3 c1_4 c1_5 hr5 hg5 HB4
    go_wp2_with fail
    exact bodyPost_ret (results_cell_row Try.results21 _ _ _ _ _ (0, 0) _ rfl (HB5.out.r1) Try.underlying23 rfl (by kernel_rfl)) rfl (⟨rfl, HB5.out.below⟩)
  · rw [if_neg hz]
    have hzB : (tk - 1 == 0) = false := by simpa using hz
    clear hz hT1
    have HB0 := Lib.hid (bxs2 w (.cells #[.int .i64 fl, .int .i64 fl, .int .i64 0, .int .i64 0, .int .i64 am, .int .i64 tk] 23) (.cells #[.int .i64 0, .int .i64 0, .int .i64 0, .int .i64 0, .int .i64 0, .int .i64 0] 23))
    go_enter Try.func21, Try.ntmps21
    go_wp2_with fail
    refine (FI.out _).mono ?_
    rintro e w1 ⟨rfl, hb1⟩
    have HB1 := Lib.hid (HB0.out.next hb1)
    clear hb1 HB0
    have c0_0 : w1.cell? ⟨w.heap.size, 0, none⟩ = some (.int .i64 fl) := cell_of_row _ _ _ _ _ (0, 0) HB1.out.r0
    have c0_1 : w1.cell? ⟨w.heap.size, 1, none⟩ = some (.int .i64 fl) := cell_of_row _ _ _ _ _ (0, 0) HB1.out.r0
    have c0_2 : w1.cell? ⟨w.heap.size, 2, none⟩ = some (.int .i64 0) := cell_of_row _ _ _ _ _ (0, 0) HB1.out.r0
    have c0_3 : w1.cell? ⟨w.heap.size, 3, none⟩ = some (.int .i64 0) := cell_of_row _ _ _ _ _ (0, 0) HB1.out.r0
    have c0_4 : w1.cell? ⟨w.heap.size, 4, none⟩ = some (.int .i64 am) := cell_of_row _ _ _ _ _ (0, 0) HB1.out.r0
    have c0_5 : w1.cell? ⟨w.heap.size, 5, none⟩ = some (.int .i64 tk) := cell_of_row _ _ _ _ _ (0, 0) HB1.out.r0
    have c1_0 : w1.cell? ⟨w.heap.size + 1, 0, none⟩ = some (.int .i64 0) := cell_of_row _ _ _ _ _ (0, 0) HB1.out.r1
    have c1_1 : w1.cell? ⟨w.heap.size + 1, 1, none⟩ = some (.int .i64 0) := cell_of_row _ _ _ _ _ (0, 0) HB1.out.r1
    have c1_2 : w1.cell? ⟨w.heap.size + 1, 2, none⟩ = some (.int .i64 0) := cell_of_row _ _ _ _ _ (0, 0) HB1.out.r1
    have c1_3 : w1.cell? ⟨w.heap.size + 1, 3, none⟩ = some (.int .i64 0) := cell_of_row _ _ _ _ _ (0, 0) HB1.out.r1
    have c1_4 : w1.cell? ⟨w.heap.size + 1, 4, none⟩ = some (.int .i64 0) := cell_of_row _ _ _ _ _ (0, 0) HB1.out.r1
    have c1_5 : w1.cell? ⟨w.heap.size + 1, 5, none⟩ = some (.int .i64 0) := cell_of_row _ _ _ _ _ (0, 0) HB1.out.r1
    go_wp2_with (with_reducible show wpList _ _ _ (Oper.mk _ (.store 3 _ _) _ _ _ _ :: _) _ _; refine Hid.out ?_)
    refine Lib.hid ?_
    refine wpList_putCell rfl 3 _ _ rfl (w.heap.size) 5 (.int .i64 (tk - 1)) _ _ 23 rfl rfl HB1.out.r0 (by kernel_rfl) (by simp) rfl rfl rfl ?_
    intro w2 hr2 hg2
    have HB2 : Hid (Bx w [(w.heap.size, .cells #[.int .i64 fl, .int .i64 fl, .int .i64 0, .int .i64 0, .int .i64 am, .int .i64 (tk - 1)] 23 (0, 0)), (w.heap.size + 1, .cells #[.int .i64 0, .int .i64 0, .int .i64 0, .int .i64 0, .int .i64 0, .int .i64 0] 23 (0, 0))] w2) := Lib.hid (HB1.out.put (by omega) hg2.out hr2.out (by simp only [List.mem_cons, List.not_mem_nil, or_false]; rintro p (rfl | rfl) <;> simp <;> omega))
    clear c0_0 c0_1 c0_2 c0_3 c0_4 c0_5 c1_0 c1_1 c1_2 c1_3 c1_4 c1_5 hr2 hg2 HB1
    have c0_0 : w2.cell? ⟨w.heap.size, 0, none⟩ = some (.int .i64 fl) := cell_of_row _ _ _ _ _ (0, 0) HB2.out.r0
    have c0_1 : w2.cell? ⟨w.heap.size, 1, none⟩ = some (.int .i64 fl) := cell_of_row _ _ _ _ _ (0, 0) HB2.out.r0
    have c0_2 : w2.cell? ⟨w.heap.size, 2, none⟩ = some (.int .i64 0) := cell_of_row _ _ _ _ _ (0, 0) HB2.out.r0
    have c0_3 : w2.cell? ⟨w.heap.size, 3, none⟩ = some (.int .i64 0) := cell_of_row _ _ _ _ _ (0, 0) HB2.out.r0
    have c0_4 : w2.cell? ⟨w.heap.size, 4, none⟩ = some (.int .i64 am) := cell_of_row _ _ _ _ _ (0, 0) HB2.out.r0
    have c0_5 : w2.cell? ⟨w.heap.size, 5, none⟩ = some (.int .i64 (tk - 1)) := cell_of_row _ _ _ _ _ (0, 0) HB2.out.r0
    have c1_0 : w2.cell? ⟨w.heap.size + 1, 0, none⟩ = some (.int .i64 0) := cell_of_row _ _ _ _ _ (0, 0) HB2.out.r1
    have c1_1 : w2.cell? ⟨w.heap.size + 1, 1, none⟩ = some (.int .i64 0) := cell_of_row _ _ _ _ _ (0, 0) HB2.out.r1
    have c1_2 : w2.cell? ⟨w.heap.size + 1, 2, none⟩ = some (.int .i64 0) := cell_of_row _ _ _ _ _ (0, 0) HB2.out.r1
    have c1_3 : w2.cell? ⟨w.heap.size + 1, 3, none⟩ = some (.int .i64 0) := cell_of_row _ _ _ _ _ (0, 0) HB2.out.r1
    have c1_4 : w2.cell? ⟨w.heap.size + 1, 4, none⟩ = some (.int .i64 0) := cell_of_row _ _ _ _ _ (0, 0) HB2.out.r1
    have c1_5 : w2.cell? ⟨w.heap.size + 1, 5, none⟩ = some (.int .i64 0) := cell_of_row _ _ _ _ _ (0, 0) HB2.out.r1
    go_wp2_with (with_reducible show wpList _ _ _ (Oper.mk _ (.store 23 _ _) _ _ _ _ :: _) _ _; refine Hid.out ?_)
    refine Lib.hid ?_
    refine wpList_put rfl 23 _ _ rfl (w.heap.size + 1) #[.int .i64 fl, .int .i64 fl, .int .i64 0, .int .i64 0, .int .i64 am, .int .i64 (tk - 1)] _ 23 rfl rfl HB2.out.r1 (by kernel_rfl) rfl (by kernel_rfl) ?_
    intro w3 hr3 hg3
    have HB3 : Hid (Bx w [(w.heap.size, .cells #[.int .i64 fl, .int .i64 fl, .int .i64 0, .int .i64 0, .int .i64 am, .int .i64 (tk - 1)] 23 (0, 0)), (w.heap.size + 1, .cells #[.int .i64 fl, .int .i64 fl, .int .i64 0, .int .i64 0, .int .i64 am, .int .i64 (tk - 1)] 23 (0, 0))] w3) := Lib.hid (HB2.out.put (by omega) hg3.out hr3.out (by simp only [List.mem_cons, List.not_mem_nil, or_false]; rintro p (rfl | rfl) <;> simp <;> omega))
    clear c0_0 c0_1 c0_2 c0_3 c0_4 c0_5 c1_0 c1_1 c1_2 c1_3 c1_4 c1_5 hr3 hg3 HB2
    go_wp2_with fail
    exact bodyPost_ret (results_cell_row Try.results21 _ _ _ _ _ (0, 0) _ rfl (HB3.out.r1) Try.underlying23 rfl (by kernel_rfl)) rfl (⟨rfl, HB3.out.below⟩)
set_option maxHeartbeats 8000000 in
theorem playS2_open (F fl t u T : Int) (w : World) (h : Rg.Ok F ⟨fl, fl, 0, 1, 0, 0⟩) (hu : (if 10000 < t then (10000 : Int) else t) = u) (hT : (if 1 < u then u else 1) = T) (hT1 : 1 ≤ T ∧ T ≤ 10000) :
    Calls Try.prog 21 #[.int .i64 F, Rg.agg ⟨fl, fl, 0, 1, 0, 0⟩, .int .i64 2, .int .i64 t] w fun ee w' => ee = .returned (Rg.agg ((⟨fl, fl, 0, 1, 0, 0⟩ : Rg))) ∧ Below w.heap.size w w' := by
  have FI := Lib.hid (fun wx => playIs_any F ⟨fl, fl, 0, 1, 0, 0⟩ wx)
  rw [Rg.isB_iff.2 h] at FI
  have hF := h.fs
  have hfl := h.fl
  simp only at hfl
  clear h
  simp only [Rg.agg, Rg.shut] at *
  have hw3 : IntKind.i64.wrap (fl - 1) = fl - 1 := by rw [IntKind.wrap_i64]; omega
  clear hF hfl
  clear hT1
  have HB0 := Lib.hid (bxs2 w (.cells #[.int .i64 fl, .int .i64 fl, .int .i64 0, .int .i64 1, .int .i64 0, .int .i64 0] 23) (.cells #[.int .i64 0, .int .i64 0, .int .i64 0, .int .i64 0, .int .i64 0, .int .i64 0] 23))
  go_enter Try.func21, Try.ntmps21
  go_wp2_with fail
  refine (FI.out _).mono ?_
  rintro e w1 ⟨rfl, hb1⟩
  have HB1 := Lib.hid (HB0.out.next hb1)
  clear hb1 HB0
  have c0_0 : w1.cell? ⟨w.heap.size, 0, none⟩ = some (.int .i64 fl) := cell_of_row _ _ _ _ _ (0, 0) HB1.out.r0
  have c0_1 : w1.cell? ⟨w.heap.size, 1, none⟩ = some (.int .i64 fl) := cell_of_row _ _ _ _ _ (0, 0) HB1.out.r0
  have c0_2 : w1.cell? ⟨w.heap.size, 2, none⟩ = some (.int .i64 0) := cell_of_row _ _ _ _ _ (0, 0) HB1.out.r0
  have c0_3 : w1.cell? ⟨w.heap.size, 3, none⟩ = some (.int .i64 1) := cell_of_row _ _ _ _ _ (0, 0) HB1.out.r0
  have c0_4 : w1.cell? ⟨w.heap.size, 4, none⟩ = some (.int .i64 0) := cell_of_row _ _ _ _ _ (0, 0) HB1.out.r0
  have c0_5 : w1.cell? ⟨w.heap.size, 5, none⟩ = some (.int .i64 0) := cell_of_row _ _ _ _ _ (0, 0) HB1.out.r0
  have c1_0 : w1.cell? ⟨w.heap.size + 1, 0, none⟩ = some (.int .i64 0) := cell_of_row _ _ _ _ _ (0, 0) HB1.out.r1
  have c1_1 : w1.cell? ⟨w.heap.size + 1, 1, none⟩ = some (.int .i64 0) := cell_of_row _ _ _ _ _ (0, 0) HB1.out.r1
  have c1_2 : w1.cell? ⟨w.heap.size + 1, 2, none⟩ = some (.int .i64 0) := cell_of_row _ _ _ _ _ (0, 0) HB1.out.r1
  have c1_3 : w1.cell? ⟨w.heap.size + 1, 3, none⟩ = some (.int .i64 0) := cell_of_row _ _ _ _ _ (0, 0) HB1.out.r1
  have c1_4 : w1.cell? ⟨w.heap.size + 1, 4, none⟩ = some (.int .i64 0) := cell_of_row _ _ _ _ _ (0, 0) HB1.out.r1
  have c1_5 : w1.cell? ⟨w.heap.size + 1, 5, none⟩ = some (.int .i64 0) := cell_of_row _ _ _ _ _ (0, 0) HB1.out.r1
  go_wp2_with (with_reducible show wpList _ _ _ (Oper.mk _ (.store 23 _ _) _ _ _ _ :: _) _ _; refine Hid.out ?_)
  refine Lib.hid ?_
  refine wpList_put rfl 23 _ _ rfl (w.heap.size + 1) #[.int .i64 fl, .int .i64 fl, .int .i64 0, .int .i64 1, .int .i64 0, .int .i64 0] _ 23 rfl rfl HB1.out.r1 (by kernel_rfl) rfl (by kernel_rfl) ?_
  intro w2 hr2 hg2
  have HB2 : Hid (Bx w [(w.heap.size, .cells #[.int .i64 fl, .int .i64 fl, .int .i64 0, .int .i64 1, .int .i64 0, .int .i64 0] 23 (0, 0)), (w.heap.size + 1, .cells #[.int .i64 fl, .int .i64 fl, .int .i64 0, .int .i64 1, .int .i64 0, .int .i64 0] 23 (0, 0))] w2) := Lib.hid (HB1.out.put (by omega) hg2.out hr2.out (by simp only [List.mem_cons, List.not_mem_nil, or_false]; rintro p (rfl | rfl) <;> simp <;> omega))
  clear c0_0 c0_1 c0_2 c0_3 c0_4 c0_5 c1_0 c1_1 c1_2 c1_3 c1_4 c1_5 hr2 hg2 HB1
  go_wp2_with fail
  exact bodyPost_ret (results_cell_row Try.results21 _ _ _ _ _ (0, 0) _ rfl (HB2.out.r1) Try.underlying23 rfl (by kernel_rfl)) rfl (⟨rfl, HB2.out.below⟩)
set_option maxHeartbeats 8000000 in
theorem playS2_out (F fl t u T : Int) (w : World) (h : Rg.Ok F ⟨fl, fl, 0, 2, 0, 0⟩) (hu : (if 10000 < t then (10000 : Int) else t) = u) (hT : (if 1 < u then u else 1) = T) (hT1 : 1 ≤ T ∧ T ≤ 10000) (hout : ¬ (0 ≤ fl - 1 ∧ fl - 1 ≤ F - 1)) :
    Calls Try.prog 21 #[.int .i64 F, Rg.agg ⟨fl, fl, 0, 2, 0, 0⟩, .int .i64 2, .int .i64 t] w fun ee w' => ee = .returned (Rg.agg ((⟨fl, fl, 0, 2, 0, 0⟩ : Rg))) ∧ Below w.heap.size w w' := by
  have FI := Lib.hid (fun wx => playIs_any F ⟨fl, fl, 0, 2, 0, 0⟩ wx)
  rw [Rg.isB_iff.2 h] at FI
  have hF := h.fs
  have hfl := h.fl
  simp only at hfl
  clear h
  simp only [Rg.agg, Rg.shut] at *
  have hw3 : IntKind.i64.wrap (fl - 1) = fl - 1 := by rw [IntKind.wrap_i64]; omega
  have hw1 : IntKind.i64.wrap (F - 1) = F - 1 := by rw [IntKind.wrap_i64]; omega
  have hne : ((fl - 1) != fl) = true := by simp only [bne_iff_ne, ne_eq]; omega
  have FN := Lib.hid (fun wx => playIn_any (fl - 1) 0 (F - 1) wx)
  rw [Nc.wi_no hout] at FN
  clear hout
  clear hF hfl
  clear hT1
  have HB0 := Lib.hid (bxs2 w (.cells #[.int .i64 fl, .int .i64 fl, .int .i64 0, .int .i64 2, .int .i64 0, .int .i64 0] 23) (.cells #[.int .i64 0, .int .i64 0, .int .i64 0, .int .i64 0, .int .i64 0, .int .i64 0] 23))
  go_enter Try.func21, Try.ntmps21
  go_wp2_with fail
  refine (FI.out _).mono ?_
  rintro e w1 ⟨rfl, hb1⟩
  have HB1 := Lib.hid (HB0.out.next hb1)
  clear hb1 HB0
  have c0_0 : w1.cell? ⟨w.heap.size, 0, none⟩ = some (.int .i64 fl) := cell_of_row _ _ _ _ _ (0, 0) HB1.out.r0
  have c0_1 : w1.cell? ⟨w.heap.size, 1, none⟩ = some (.int .i64 fl) := cell_of_row _ _ _ _ _ (0, 0) HB1.out.r0
  have c0_2 : w1.cell? ⟨w.heap.size, 2, none⟩ = some (.int .i64 0) := cell_of_row _ _ _ _ _ (0, 0) HB1.out.r0
  have c0_3 : w1.cell? ⟨w.heap.size, 3, none⟩ = some (.int .i64 2) := cell_of_row _ _ _ _ _ (0, 0) HB1.out.r0
  have c0_4 : w1.cell? ⟨w.heap.size, 4, none⟩ = some (.int .i64 0) := cell_of_row _ _ _ _ _ (0, 0) HB1.out.r0
  have c0_5 : w1.cell? ⟨w.heap.size, 5, none⟩ = some (.int .i64 0) := cell_of_row _ _ _ _ _ (0, 0) HB1.out.r0
  have c1_0 : w1.cell? ⟨w.heap.size + 1, 0, none⟩ = some (.int .i64 0) := cell_of_row _ _ _ _ _ (0, 0) HB1.out.r1
  have c1_1 : w1.cell? ⟨w.heap.size + 1, 1, none⟩ = some (.int .i64 0) := cell_of_row _ _ _ _ _ (0, 0) HB1.out.r1
  have c1_2 : w1.cell? ⟨w.heap.size + 1, 2, none⟩ = some (.int .i64 0) := cell_of_row _ _ _ _ _ (0, 0) HB1.out.r1
  have c1_3 : w1.cell? ⟨w.heap.size + 1, 3, none⟩ = some (.int .i64 0) := cell_of_row _ _ _ _ _ (0, 0) HB1.out.r1
  have c1_4 : w1.cell? ⟨w.heap.size + 1, 4, none⟩ = some (.int .i64 0) := cell_of_row _ _ _ _ _ (0, 0) HB1.out.r1
  have c1_5 : w1.cell? ⟨w.heap.size + 1, 5, none⟩ = some (.int .i64 0) := cell_of_row _ _ _ _ _ (0, 0) HB1.out.r1
  go_wp2_with fail
  refine (FN.out _).mono ?_
  rintro e w2 ⟨rfl, hb2⟩
  have HB2 := Lib.hid (HB1.out.next hb2)
  clear c0_0 c0_1 c0_2 c0_3 c0_4 c0_5 c1_0 c1_1 c1_2 c1_3 c1_4 c1_5 hb2 HB1
  have c0_0 : w2.cell? ⟨w.heap.size, 0, none⟩ = some (.int .i64 fl) := cell_of_row _ _ _ _ _ (0, 0) HB2.out.r0
  have c0_1 : w2.cell? ⟨w.heap.size, 1, none⟩ = some (.int .i64 fl) := cell_of_row _ _ _ _ _ (0, 0) HB2.out.r0
  have c0_2 : w2.cell? ⟨w.heap.size, 2, none⟩ = some (.int .i64 0) := cell_of_row _ _ _ _ _ (0, 0) HB2.out.r0
  have c0_3 : w2.cell? ⟨w.heap.size, 3, none⟩ = some (.int .i64 2) := cell_of_row _ _ _ _ _ (0, 0) HB2.out.r0
  have c0_4 : w2.cell? ⟨w.heap.size, 4, none⟩ = some (.int .i64 0) := cell_of_row _ _ _ _ _ (0, 0) HB2.out.r0
  have c0_5 : w2.cell? ⟨w.heap.size, 5, none⟩ = some (.int .i64 0) := cell_of_row _ _ _ _ _ (0, 0) HB2.out.r0
  have c1_0 : w2.cell? ⟨w.heap.size + 1, 0, none⟩ = some (.int .i64 0) := cell_of_row _ _ _ _ _ (0, 0) HB2.out.r1
  have c1_1 : w2.cell? ⟨w.heap.size + 1, 1, none⟩ = some (.int .i64 0) := cell_of_row _ _ _ _ _ (0, 0) HB2.out.r1
  have c1_2 : w2.cell? ⟨w.heap.size + 1, 2, none⟩ = some (.int .i64 0) := cell_of_row _ _ _ _ _ (0, 0) HB2.out.r1
  have c1_3 : w2.cell? ⟨w.heap.size + 1, 3, none⟩ = some (.int .i64 0) := cell_of_row _ _ _ _ _ (0, 0) HB2.out.r1
  have c1_4 : w2.cell? ⟨w.heap.size + 1, 4, none⟩ = some (.int .i64 0) := cell_of_row _ _ _ _ _ (0, 0) HB2.out.r1
  have c1_5 : w2.cell? ⟨w.heap.size + 1, 5, none⟩ = some (.int .i64 0) := cell_of_row _ _ _ _ _ (0, 0) HB2.out.r1
  go_wp2_with (with_reducible show wpList _ _ _ (Oper.mk _ (.store 23 _ _) _ _ _ _ :: _) _ _; refine Hid.out ?_)
  refine Lib.hid ?_
  refine wpList_put rfl 23 _ _ rfl (w.heap.size + 1) #[.int .i64 fl, .int .i64 fl, .int .i64 0, .int .i64 2, .int .i64 0, .int .i64 0] _ 23 rfl rfl HB2.out.r1 (by kernel_rfl) rfl (by kernel_rfl) ?_
  intro w3 hr3 hg3
  have HB3 : Hid (Bx w [(w.heap.size, .cells #[.int .i64 fl, .int .i64 fl, .int .i64 0, .int .i64 2, .int .i64 0, .int .i64 0] 23 (0, 0)), (w.heap.size + 1, .cells #[.int .i64 fl, .int .i64 fl, .int .i64 0, .int .i64 2, .int .i64 0, .int .i64 0] 23 (0, 0))] w3) := Lib.hid (HB2.out.put (by omega) hg3.out hr3.out (by simp only [List.mem_cons, List.not_mem_nil, or_false]; rintro p (rfl | rfl) <;> simp <;> omega))
  clear c0_0 c0_1 c0_2 c0_3 c0_4 c0_5 c1_0 c1_1 c1_2 c1_3 c1_4 c1_5 hr3 hg3 HB2
  go_wp2_with fail
  exact bodyPost_ret (results_cell_row Try.results21 _ _ _ _ _ (0, 0) _ rfl (HB3.out.r1) Try.underlying23 rfl (by kernel_rfl)) rfl (⟨rfl, HB3.out.below⟩)
set_option maxHeartbeats 8000000 in
theorem playS2_on (F fl am tk t u T : Int) (w : World) (h : Rg.Ok F ⟨fl, fl, 0, 0, am, tk⟩) (hu : (if 10000 < t then (10000 : Int) else t) = u) (hT : (if 1 < u then u else 1) = T) (hT1 : 1 ≤ T ∧ T ≤ 10000) (ham : 1 ≤ am ∧ am ≤ 2) (htk : 1 ≤ tk ∧ tk ≤ 10000) :
    Calls Try.prog 21 #[.int .i64 F, Rg.agg ⟨fl, fl, 0, 0, am, tk⟩, .int .i64 2, .int .i64 t] w fun ee w' => ee = .returned (Rg.agg (Rg.shut ⟨fl, fl, 0, 0, am, tk - 1⟩ am)) ∧ Below w.heap.size w w' := by
  have FI := Lib.hid (fun wx => playIs_any F ⟨fl, fl, 0, 0, am, tk⟩ wx)
  rw [Rg.isB_iff.2 h] at FI
  have hF := h.fs
  have hfl := h.fl
  simp only at hfl
  clear h
  simp only [Rg.agg, Rg.shut] at *
  have hw3 : IntKind.i64.wrap (fl - 1) = fl - 1 := by rw [IntKind.wrap_i64]; omega
  have hA0 : (am == 0) = false := by simp only [beq_eq_false_iff_ne, ne_eq]; omega
  have hA1 : ¬ am = 0 := by omega
  clear ham
  have hwk : IntKind.i64.wrap (tk - 1) = tk - 1 := by rw [IntKind.wrap_i64]; omega
  clear hF hfl
  by_cases hz : tk - 1 = 0
  · rw [if_pos hz]
    have hzB : (tk - 1 == 0) = true := by simpa using hz
    clear hz hT1
    have HB0 := Lib.hid (bxs2 w (.cells #[.int .i64 fl, .int .i64 fl, .int .i64 0, .int .i64 0, .int .i64 am, .int .i64 tk] 23) (.cells #[.int .i64 0, .int .i64 0, .int .i64 0, .int .i64 0, .int .i64 0, .int .i64 0] 23))
    go_enter Try.func21, Try.ntmps21
    go_wp2_with fail
    refine (FI.out _).mono ?_
    rintro e w1 ⟨rfl, hb1⟩
    have HB1 := Lib.hid (HB0.out.next hb1)
    clear hb1 HB0
    have c0_0 : w1.cell? ⟨w.heap.size, 0, none⟩ = some (.int .i64 fl) := cell_of_row _ _ _ _ _ (0, 0) HB1.out.r0
    have c0_1 : w1.cell? ⟨w.heap.size, 1, none⟩ = some (.int .i64 fl) := cell_of_row _ _ _ _ _ (0, 0) HB1.out.r0
    have c0_2 : w1.cell? ⟨w.heap.size, 2, none⟩ = some (.int .i64 0) := cell_of_row _ _ _ _ _ (0, 0) HB1.out.r0
    have c0_3 : w1.cell? ⟨w.heap.size, 3, none⟩ = some (.int .i64 0) := cell_of_row _ _ _ _ _ (0, 0) HB1.out.r0
    have c0_4 : w1.cell? ⟨w.heap.size, 4, none⟩ = some (.int .i64 am) := cell_of_row _ _ _ _ _ (0, 0) HB1.out.r0
    have c0_5 : w1.cell? ⟨w.heap.size, 5, none⟩ = some (.int .i64 tk) := cell_of_row _ _ _ _ _ (0, 0) HB1.out.r0
    have c1_0 : w1.cell? ⟨w.heap.size + 1, 0, none⟩ = some (.int .i64 0) := cell_of_row _ _ _ _ _ (0, 0) HB1.out.r1
    have c1_1 : w1.cell? ⟨w.heap.size + 1, 1, none⟩ = some (.int .i64 0) := cell_of_row _ _ _ _ _ (0, 0) HB1.out.r1
    have c1_2 : w1.cell? ⟨w.heap.size + 1, 2, none⟩ = some (.int .i64 0) := cell_of_row _ _ _ _ _ (0, 0) HB1.out.r1
    have c1_3 : w1.cell? ⟨w.heap.size + 1, 3, none⟩ = some (.int .i64 0) := cell_of_row _ _ _ _ _ (0, 0) HB1.out.r1
    have c1_4 : w1.cell? ⟨w.heap.size + 1, 4, none⟩ = some (.int .i64 0) := cell_of_row _ _ _ _ _ (0, 0) HB1.out.r1
    have c1_5 : w1.cell? ⟨w.heap.size + 1, 5, none⟩ = some (.int .i64 0) := cell_of_row _ _ _ _ _ (0, 0) HB1.out.r1
    go_wp2_with (with_reducible show wpList _ _ _ (Oper.mk _ (.store 3 _ _) _ _ _ _ :: _) _ _; refine Hid.out ?_)
    refine Lib.hid ?_
    refine wpList_putCell rfl 3 _ _ rfl (w.heap.size) 5 (.int .i64 (tk - 1)) _ _ 23 rfl rfl HB1.out.r0 (by kernel_rfl) (by simp) rfl rfl rfl ?_
    intro w2 hr2 hg2
    have HB2 : Hid (Bx w [(w.heap.size, .cells #[.int .i64 fl, .int .i64 fl, .int .i64 0, .int .i64 0, .int .i64 am, .int .i64 (tk - 1)] 23 (0, 0)), (w.heap.size + 1, .cells #[.int .i64 0, .int .i64 0, .int .i64 0, .int .i64 0, .int .i64 0, .int .i64 0] 23 (0, 0))] w2) := Lib.hid (HB1.out.put (by omega) hg2.out hr2.out (by simp only [List.mem_cons, List.not_mem_nil, or_false]; rintro p (rfl | rfl) <;> simp <;> omega))
    clear c0_0 c0_1 c0_2 c0_3 c0_4 c0_5 c1_0 c1_1 c1_2 c1_3 c1_4 c1_5 hr2 hg2 HB1
    have c0_0 : w2.cell? ⟨w.heap.size, 0, none⟩ = some (.int .i64 fl) := cell_of_row _ _ _ _ _ (0, 0) HB2.out.r0
    have c0_1 : w2.cell? ⟨w.heap.size, 1, none⟩ = some (.int .i64 fl) := cell_of_row _ _ _ _ _ (0, 0) HB2.out.r0
    have c0_2 : w2.cell? ⟨w.heap.size, 2, none⟩ = some (.int .i64 0) := cell_of_row _ _ _ _ _ (0, 0) HB2.out.r0
    have c0_3 : w2.cell? ⟨w.heap.size, 3, none⟩ = some (.int .i64 0) := cell_of_row _ _ _ _ _ (0, 0) HB2.out.r0
    have c0_4 : w2.cell? ⟨w.heap.size, 4, none⟩ = some (.int .i64 am) := cell_of_row _ _ _ _ _ (0, 0) HB2.out.r0
    have c0_5 : w2.cell? ⟨w.heap.size, 5, none⟩ = some (.int .i64 (tk - 1)) := cell_of_row _ _ _ _ _ (0, 0) HB2.out.r0
    have c1_0 : w2.cell? ⟨w.heap.size + 1, 0, none⟩ = some (.int .i64 0) := cell_of_row _ _ _ _ _ (0, 0) HB2.out.r1
    have c1_1 : w2.cell? ⟨w.heap.size + 1, 1, none⟩ = some (.int .i64 0) := cell_of_row _ _ _ _ _ (0, 0) HB2.out.r1
    have c1_2 : w2.cell? ⟨w.heap.size + 1, 2, none⟩ = some (.int .i64 0) := cell_of_row _ _ _ _ _ (0, 0) HB2.out.r1
    have c1_3 : w2.cell? ⟨w.heap.size + 1, 3, none⟩ = some (.int .i64 0) := cell_of_row _ _ _ _ _ (0, 0) HB2.out.r1
    have c1_4 : w2.cell? ⟨w.heap.size + 1, 4, none⟩ = some (.int .i64 0) := cell_of_row _ _ _ _ _ (0, 0) HB2.out.r1
    have c1_5 : w2.cell? ⟨w.heap.size + 1, 5, none⟩ = some (.int .i64 0) := cell_of_row _ _ _ _ _ (0, 0) HB2.out.r1
    go_wp2_with (with_reducible show wpList _ _ _ (Oper.mk _ (.store 3 _ _) _ _ _ _ :: _) _ _; refine Hid.out ?_)
    refine Lib.hid ?_
    refine wpList_putCell rfl 3 _ _ rfl (w.heap.size) 3 (.int .i64 am) _ _ 23 rfl rfl HB2.out.r0 (by kernel_rfl) (by simp) rfl rfl rfl ?_
    intro w3 hr3 hg3
    have HB3 : Hid (Bx w [(w.heap.size, .cells #[.int .i64 fl, .int .i64 fl, .int .i64 0, .int .i64 am, .int .i64 am, .int .i64 (tk - 1)] 23 (0, 0)), (w.heap.size + 1, .cells #[.int .i64 0, .int .i64 0, .int .i64 0, .int .i64 0, .int .i64 0, .int .i64 0] 23 (0, 0))] w3) := Lib.hid (HB2.out.put (by omega) hg3.out hr3.out (by simp only [List.mem_cons, List.not_mem_nil, or_false]; rintro p (rfl | rfl) <;> simp <;> omega))
    clear c0_0 c0_1 c0_2 c0_3 c0_4 c0_5 c1_0 c1_1 c1_2 c1_3 c1_4 c1_5 hr3 hg3 HB2
    have c0_0 : w3.cell? ⟨w.heap.size, 0, none⟩ = some (.int .i64 fl) := cell_of_row _ _ _ _ _ (0, 0) HB3.out.r0
    have c0_1 : w3.cell? ⟨w.heap.size, 1, none⟩ = some (.int .i64 fl) := cell_of_row _ _ _ _ _ (0, 0) HB3.out.r0
    have c0_2 : w3.cell? ⟨w.heap.size, 2, none⟩ = some (.int .i64 0) := cell_of_row _ _ _ _ _ (0, 0) HB3.out.r0
    have c0_3 : w3.cell? ⟨w.heap.size, 3, none⟩ = some (.int .i64 am) := cell_of_row _ _ _ _ _ (0, 0) HB3.out.r0
    have c0_4 : w3.cell? ⟨w.heap.size, 4, none⟩ = some (.int .i64 am) := cell_of_row _ _ _ _ _ (0, 0) HB3.out.r0
    have c0_5 : w3.cell? ⟨w.heap.size, 5, none⟩ = some (.int .i64 (tk - 1)) := cell_of_row _ _ _ _ _ (0, 0) HB3.out.r0
    have c1_0 : w3.cell? ⟨w.heap.size + 1, 0, none⟩ = some (.int .i64 0) := cell_of_row _ _ _ _ _ (0, 0) HB3.out.r1
    have c1_1 : w3.cell? ⟨w.heap.size + 1, 1, none⟩ = some (.int .i64 0) := cell_of_row _ _ _ _ _ (0, 0) HB3.out.r1
    have c1_2 : w3.cell? ⟨w.heap.size + 1, 2, none⟩ = some (.int .i64 0) := cell_of_row _ _ _ _ _ (0, 0) HB3.out.r1
    have c1_3 : w3.cell? ⟨w.heap.size + 1, 3, none⟩ = some (.int .i64 0) := cell_of_row _ _ _ _ _ (0, 0) HB3.out.r1
    have c1_4 : w3.cell? ⟨w.heap.size + 1, 4, none⟩ = some (.int .i64 0) := cell_of_row _ _ _ _ _ (0, 0) HB3.out.r1
    have c1_5 : w3.cell? ⟨w.heap.size + 1, 5, none⟩ = some (.int .i64 0) := cell_of_row _ _ _ _ _ (0, 0) HB3.out.r1
    go_wp2_with (with_reducible show wpList _ _ _ (Oper.mk _ (.store 3 _ _) _ _ _ _ :: _) _ _; refine Hid.out ?_)
    refine Lib.hid ?_
    refine wpList_putCell rfl 3 _ _ rfl (w.heap.size) 4 (.int .i64 0) _ _ 23 rfl rfl HB3.out.r0 (by kernel_rfl) (by simp) rfl rfl rfl ?_
    intro w4 hr4 hg4
    have HB4 : Hid (Bx w [(w.heap.size, .cells #[.int .i64 fl, .int .i64 fl, .int .i64 0, .int .i64 am, .int .i64 0, .int .i64 (tk - 1)] 23 (0, 0)), (w.heap.size + 1, .cells #[.int .i64 0, .int .i64 0, .int .i64 0, .int .i64 0, .int .i64 0, .int .i64 0] 23 (0, 0))] w4) := Lib.hid (HB3.out.put (by omega) hg4.out hr4.out (by simp only [List.mem_cons, List.not_mem_nil, or_false]; rintro p (rfl | rfl) <;> simp <;> omega))
    clear c0_0 c0_1 c0_2 c0_3 c0_4 c0_5 c1_0 c1_1 c1_2 c1_3 c1_4 c1_5 hr4 hg4 HB3
    have c0_0 : w4.cell? ⟨w.heap.size, 0, none⟩ = some (.int .i64 fl) := cell_of_row _ _ _ _ _ (0, 0) HB4.out.r0
    have c0_1 : w4.cell? ⟨w.heap.size, 1, none⟩ = some (.int .i64 fl) := cell_of_row _ _ _ _ _ (0, 0) HB4.out.r0
    have c0_2 : w4.cell? ⟨w.heap.size, 2, none⟩ = some (.int .i64 0) := cell_of_row _ _ _ _ _ (0, 0) HB4.out.r0
    have c0_3 : w4.cell? ⟨w.heap.size, 3, none⟩ = some (.int .i64 am) := cell_of_row _ _ _ _ _ (0, 0) HB4.out.r0
    have c0_4 : w4.cell? ⟨w.heap.size, 4, none⟩ = some (.int .i64 0) := cell_of_row _ _ _ _ _ (0, 0) HB4.out.r0
    have c0_5 : w4.cell? ⟨w.heap.size, 5, none⟩ = some (.int .i64 (tk - 1)) := cell_of_row _ _ _ _ _ (0, 0) HB4.out.r0
    have c1_0 : w4.cell? ⟨w.heap.size + 1, 0, none⟩ = some (.int .i64 0) := cell_of_row _ _ _ _ _ (0, 0) HB4.out.r1
    have c1_1 : w4.cell? ⟨w.heap.size + 1, 1, none⟩ = some (.int .i64 0) := cell_of_row _ _ _ _ _ (0, 0) HB4.out.r1
    have c1_2 : w4.cell? ⟨w.heap.size + 1, 2, none⟩ = some (.int .i64 0) := cell_of_row _ _ _ _ _ (0, 0) HB4.out.r1
    have c1_3 : w4.cell? ⟨w.heap.size + 1, 3, none⟩ = some (.int .i64 0) := cell_of_row _ _ _ _ _ (0, 0) HB4.out.r1
    have c1_4 : w4.cell? ⟨w.heap.size + 1, 4, none⟩ = some (.int .i64 0) := cell_of_row _ _ _ _ _ (0, 0) HB4.out.r1
    have c1_5 : w4.cell? ⟨w.heap.size + 1, 5, none⟩ = some (.int .i64 0) := cell_of_row _ _ _ _ _ (0, 0) HB4.out.r1
    go_wp2_with (with_reducible show wpList _ _ _ (Oper.mk _ (.store 23 _ _) _ _ _ _ :: _) _ _; refine Hid.out ?_)
    refine Lib.hid ?_
    refine wpList_put rfl 23 _ _ rfl (w.heap.size + 1) #[.int .i64 fl, .int .i64 fl, .int .i64 0, .int .i64 am, .int .i64 0, .int .i64 (tk - 1)] _ 23 rfl rfl HB4.out.r1 (by kernel_rfl) rfl (by kernel_rfl) ?_
    intro w5 hr5 hg5
    have HB5 : Hid (Bx w [(w.heap.size, .cells #[.int .i64 fl, .int .i64 fl, .int .i64 0, .int .i64 am, .int .i64 0, .int .i64 (tk - 1)] 23 (0, 0)), (w.heap.size + 1, .cells #[.int .i64 fl, .int .i64 fl, .int .i64 0, .int .i64 am, .int .i64 0, .int .i64 (tk - 1)] 23 (0, 0))] w5) := Lib.hid (HB4.out.put (by omega) hg5.out hr5.out (by simp only [List.mem_cons, List.not_mem_nil, or_false]; rintro p (rfl | rfl) <;> simp <;> omega))
    clear c0_0 c0_1 c0_2 c0_3 c0_4 c0_5 c1_0 c1_1 c1_2 c1_3 c1_4 c1_5 hr5 hg5 HB4
    go_wp2_with fail
    exact bodyPost_ret (results_cell_row Try.results21 _ _ _ _ _ (0, 0) _ rfl (HB5.out.r1) Try.underlying23 rfl (by kernel_rfl)) rfl (⟨rfl, HB5.out.below⟩)
  · rw [if_neg hz]
    have hzB : (tk - 1 == 0) = false := by simpa using hz
    clear hz hT1
    have HB0 := Lib.hid (bxs2 w (.cells #[.int .i64 fl, .int .i64 fl, .int .i64 0, .int .i64 0, .int .i64 am, .int .i64 tk] 23) (.cells #[.int .i64 0, .int .i64 0, .int .i64 0, .int .i64 0, .int .i64 0, .int .i64 0] 23))
    go_enter Try.func21, Try.ntmps21
    go_wp2_with fail
    refine (FI.out _).mono ?_
    rintro e w1 ⟨rfl, hb1⟩
    have HB1 := Lib.hid (HB0.out.next hb1)
    clear hb1 HB0
    have c0_0 : w1.cell? ⟨w.heap.size, 0, none⟩ = some (.int .i64 fl) := cell_of_row _ _ _ _ _ (0, 0) HB1.out.r0
    have c0_1 : w1.cell? ⟨w.heap.size, 1, none⟩ = some (.int .i64 fl) := cell_of_row _ _ _ _ _ (0, 0) HB1.out.r0
    have c0_2 : w1.cell? ⟨w.heap.size, 2, none⟩ = some (.int .i64 0) := cell_of_row _ _ _ _ _ (0, 0) HB1.out.r0
    have c0_3 : w1.cell? ⟨w.heap.size, 3, none⟩ = some (.int .i64 0) := cell_of_row _ _ _ _ _ (0, 0) HB1.out.r0
    have c0_4 : w1.cell? ⟨w.heap.size, 4, none⟩ = some (.int .i64 am) := cell_of_row _ _ _ _ _ (0, 0) HB1.out.r0
    have c0_5 : w1.cell? ⟨w.heap.size, 5, none⟩ = some (.int .i64 tk) := cell_of_row _ _ _ _ _ (0, 0) HB1.out.r0
    have c1_0 : w1.cell? ⟨w.heap.size + 1, 0, none⟩ = some (.int .i64 0) := cell_of_row _ _ _ _ _ (0, 0) HB1.out.r1
    have c1_1 : w1.cell? ⟨w.heap.size + 1, 1, none⟩ = some (.int .i64 0) := cell_of_row _ _ _ _ _ (0, 0) HB1.out.r1
    have c1_2 : w1.cell? ⟨w.heap.size + 1, 2, none⟩ = some (.int .i64 0) := cell_of_row _ _ _ _ _ (0, 0) HB1.out.r1
    have c1_3 : w1.cell? ⟨w.heap.size + 1, 3, none⟩ = some (.int .i64 0) := cell_of_row _ _ _ _ _ (0, 0) HB1.out.r1
    have c1_4 : w1.cell? ⟨w.heap.size + 1, 4, none⟩ = some (.int .i64 0) := cell_of_row _ _ _ _ _ (0, 0) HB1.out.r1
    have c1_5 : w1.cell? ⟨w.heap.size + 1, 5, none⟩ = some (.int .i64 0) := cell_of_row _ _ _ _ _ (0, 0) HB1.out.r1
    go_wp2_with (with_reducible show wpList _ _ _ (Oper.mk _ (.store 3 _ _) _ _ _ _ :: _) _ _; refine Hid.out ?_)
    refine Lib.hid ?_
    refine wpList_putCell rfl 3 _ _ rfl (w.heap.size) 5 (.int .i64 (tk - 1)) _ _ 23 rfl rfl HB1.out.r0 (by kernel_rfl) (by simp) rfl rfl rfl ?_
    intro w2 hr2 hg2
    have HB2 : Hid (Bx w [(w.heap.size, .cells #[.int .i64 fl, .int .i64 fl, .int .i64 0, .int .i64 0, .int .i64 am, .int .i64 (tk - 1)] 23 (0, 0)), (w.heap.size + 1, .cells #[.int .i64 0, .int .i64 0, .int .i64 0, .int .i64 0, .int .i64 0, .int .i64 0] 23 (0, 0))] w2) := Lib.hid (HB1.out.put (by omega) hg2.out hr2.out (by simp only [List.mem_cons, List.not_mem_nil, or_false]; rintro p (rfl | rfl) <;> simp <;> omega))
    clear c0_0 c0_1 c0_2 c0_3 c0_4 c0_5 c1_0 c1_1 c1_2 c1_3 c1_4 c1_5 hr2 hg2 HB1
    have c0_0 : w2.cell? ⟨w.heap.size, 0, none⟩ = some (.int .i64 fl) := cell_of_row _ _ _ _ _ (0, 0) HB2.out.r0
    have c0_1 : w2.cell? ⟨w.heap.size, 1, none⟩ = some (.int .i64 fl) := cell_of_row _ _ _ _ _ (0, 0) HB2.out.r0
    have c0_2 : w2.cell? ⟨w.heap.size, 2, none⟩ = some (.int .i64 0) := cell_of_row _ _ _ _ _ (0, 0) HB2.out.r0
    have c0_3 : w2.cell? ⟨w.heap.size, 3, none⟩ = some (.int .i64 0) := cell_of_row _ _ _ _ _ (0, 0) HB2.out.r0
    have c0_4 : w2.cell? ⟨w.heap.size, 4, none⟩ = some (.int .i64 am) := cell_of_row _ _ _ _ _ (0, 0) HB2.out.r0
    have c0_5 : w2.cell? ⟨w.heap.size, 5, none⟩ = some (.int .i64 (tk - 1)) := cell_of_row _ _ _ _ _ (0, 0) HB2.out.r0
    have c1_0 : w2.cell? ⟨w.heap.size + 1, 0, none⟩ = some (.int .i64 0) := cell_of_row _ _ _ _ _ (0, 0) HB2.out.r1
    have c1_1 : w2.cell? ⟨w.heap.size + 1, 1, none⟩ = some (.int .i64 0) := cell_of_row _ _ _ _ _ (0, 0) HB2.out.r1
    have c1_2 : w2.cell? ⟨w.heap.size + 1, 2, none⟩ = some (.int .i64 0) := cell_of_row _ _ _ _ _ (0, 0) HB2.out.r1
    have c1_3 : w2.cell? ⟨w.heap.size + 1, 3, none⟩ = some (.int .i64 0) := cell_of_row _ _ _ _ _ (0, 0) HB2.out.r1
    have c1_4 : w2.cell? ⟨w.heap.size + 1, 4, none⟩ = some (.int .i64 0) := cell_of_row _ _ _ _ _ (0, 0) HB2.out.r1
    have c1_5 : w2.cell? ⟨w.heap.size + 1, 5, none⟩ = some (.int .i64 0) := cell_of_row _ _ _ _ _ (0, 0) HB2.out.r1
    go_wp2_with (with_reducible show wpList _ _ _ (Oper.mk _ (.store 23 _ _) _ _ _ _ :: _) _ _; refine Hid.out ?_)
    refine Lib.hid ?_
    refine wpList_put rfl 23 _ _ rfl (w.heap.size + 1) #[.int .i64 fl, .int .i64 fl, .int .i64 0, .int .i64 0, .int .i64 am, .int .i64 (tk - 1)] _ 23 rfl rfl HB2.out.r1 (by kernel_rfl) rfl (by kernel_rfl) ?_
    intro w3 hr3 hg3
    have HB3 : Hid (Bx w [(w.heap.size, .cells #[.int .i64 fl, .int .i64 fl, .int .i64 0, .int .i64 0, .int .i64 am, .int .i64 (tk - 1)] 23 (0, 0)), (w.heap.size + 1, .cells #[.int .i64 fl, .int .i64 fl, .int .i64 0, .int .i64 0, .int .i64 am, .int .i64 (tk - 1)] 23 (0, 0))] w3) := Lib.hid (HB2.out.put (by omega) hg3.out hr3.out (by simp only [List.mem_cons, List.not_mem_nil, or_false]; rintro p (rfl | rfl) <;> simp <;> omega))
    clear c0_0 c0_1 c0_2 c0_3 c0_4 c0_5 c1_0 c1_1 c1_2 c1_3 c1_4 c1_5 hr3 hg3 HB2
    go_wp2_with fail
    exact bodyPost_ret (results_cell_row Try.results21 _ _ _ _ _ (0, 0) _ rfl (HB3.out.r1) Try.underlying23 rfl (by kernel_rfl)) rfl (⟨rfl, HB3.out.below⟩)
end Go.Proofs.Ytmfinebkikhceaa
