/- sane() of stage 16. No statement of the seat is proved here. -/
import Derived.Test.YtmfinebkikhceaaRgStep
import Derived.Test.YtmfinebkikhceaaRgEq
namespace Go.Proofs.Ytmfinebkikhceaa
open Go.RowKit Go.ChangeShapes Go.WideShapes Go.ChangeAt
set_option linter.unusedSimpArgs false
set_option linter.unusedVariables false

set_option maxHeartbeats 4000000 in
theorem sane16_any (w : World) : Calls Try.prog 7 #[] w fun e w' => e = .returned (.bool true) ∧ Below w.heap.size w w' := by
  have FN := Lib.hid (fun wx => rigNew_any 2 wx)
  rw [show (Rg.new 2).agg = .agg #[.int .i64 2, .int .i64 2, .int .i64 0, .int .i64 2, .int .i64 0, .int .i64 0] from rfl] at FN
  have FS := Lib.hid (fun wx => rigStep_any 5 ⟨2, 2, 0, 2, 0, 0⟩ 1 3 wx)
  rw [show Rg.anyF 5 ⟨2, 2, 0, 2, 0, 0⟩ 1 3 = ⟨2, 3, 2, 2, 0, 0⟩ by decide +kernel] at FS
  simp only [Rg.agg] at FS
  have FT := Lib.hid (fun wx => rigStep_any 5 ⟨2, 3, 2, 2, 0, 0⟩ 0 1 wx)
  rw [show Rg.anyF 5 ⟨2, 3, 2, 2, 0, 0⟩ 0 1 = ⟨2, 3, 1, 2, 0, 0⟩ by decide +kernel] at FT
  simp only [Rg.agg] at FT
  have FU := Lib.hid (fun wx => rigStep_any 5 ⟨2, 3, 1, 2, 0, 0⟩ 0 1 wx)
  rw [show Rg.anyF 5 ⟨2, 3, 1, 2, 0, 0⟩ 0 1 = ⟨3, 3, 0, 2, 0, 0⟩ by decide +kernel] at FU
  simp only [Rg.agg] at FU
  have FR := Lib.hid (fun wx => rigReport_any ⟨2, 3, 2, 2, 0, 0⟩ true wx)
  rw [show (Rg.report ⟨2, 3, 2, 2, 0, 0⟩ true).agg = .agg #[.int .i64 2, .bool false, .int .i64 2, .bool true] from rfl] at FR
  have FR2 := Lib.hid (fun wx => rigReport_any ⟨3, 3, 0, 2, 0, 0⟩ false wx)
  rw [show (Rg.report ⟨3, 3, 0, 2, 0, 0⟩ false).agg = .agg #[.int .i64 3, .bool true, .int .i64 2, .bool false] from rfl] at FR2
  have FI := Lib.hid (fun wx => rigIs_any 5 ⟨0, 2, 0, 0, 0, 0⟩ wx)
  rw [show Rg.isB 5 ⟨0, 2, 0, 0, 0, 0⟩ = false by decide +kernel] at FI
  have q1 := fun wx => eqlFb ⟨2, false, 2, true⟩ ⟨2, false, 2, true⟩ wx
  rw [Fb.eqB_self] at q1
  simp only [Rg.agg, Fb.agg] at *
  have hfd : ∀ wx : World, (Instr.field 32 (.agg #[.int .i64 3, .bool true, .int .i64 2, .bool false]) 1).run Try.prog wx = .ok (.bool true) wx := fun _ => by kernel_rfl
  have HB0 : Hid (Bx w [] w) := Lib.hid ⟨Below.refl _ _, fun p hp => by simp at hp⟩
  go_enter Try.func7, Try.ntmps7
  go_wp2_with fail
  refine (FN.out _).mono ?_
  rintro e w1 ⟨rfl, hb1⟩
  have HB1 := Lib.hid (HB0.out.next hb1)
  clear hb1 HB0
  go_wp2_with fail
  refine (FS.out _).mono ?_
  rintro e w2 ⟨rfl, hb2⟩
  have HB2 := Lib.hid (HB1.out.next hb2)
  clear hb2 HB1
  go_wp2_with (with_reducible show wpList _ _ _ (Oper.mk _ (.store 23 _ _) _ _ _ _ :: _) _ _; refine Hid.out ?_)
  refine Lib.hid ?_
  have lw3 : w.heap.size ≤ w2.heap.size := HB2.out.below.size
  refine wpList_put rfl 23 _ _ rfl w2.heap.size #[.int .i64 2, .int .i64 3, .int .i64 2, .int .i64 2, .int .i64 0, .int .i64 0] _ 23 rfl rfl (heap_alloc_new w2 _) (by kernel_rfl) rfl (by kernel_rfl) ?_
  intro w3 hr3 hg3
  have HB3 : Hid (Bx w [(w2.heap.size, .cells #[.int .i64 2, .int .i64 3, .int .i64 2, .int .i64 2, .int .i64 0, .int .i64 0] 23 (0, 0))] w3) := Lib.hid ((HB2.out.make (heap_alloc_new w2 (.cells #[.int .i64 0, .int .i64 0, .int .i64 0, .int .i64 0, .int .i64 0, .int .i64 0] 23)) ((Below.refl w2.heap.size w2).alloc (Nat.le_refl _) _)).put HB2.out.below.size hg3.out hr3.out (by simp only [List.mem_cons, List.not_mem_nil, or_false]; rintro p rfl <;> simp <;> omega))
  clear hr3 hg3 HB2
  generalize w2.heap.size = gs at *
  have c0_0 : w3.cell? ⟨gs, 0, none⟩ = some (.int .i64 2) := cell_of_row _ _ _ _ _ (0, 0) HB3.out.r0
  have c0_1 : w3.cell? ⟨gs, 1, none⟩ = some (.int .i64 3) := cell_of_row _ _ _ _ _ (0, 0) HB3.out.r0
  have c0_2 : w3.cell? ⟨gs, 2, none⟩ = some (.int .i64 2) := cell_of_row _ _ _ _ _ (0, 0) HB3.out.r0
  have c0_3 : w3.cell? ⟨gs, 3, none⟩ = some (.int .i64 2) := cell_of_row _ _ _ _ _ (0, 0) HB3.out.r0
  have c0_4 : w3.cell? ⟨gs, 4, none⟩ = some (.int .i64 0) := cell_of_row _ _ _ _ _ (0, 0) HB3.out.r0
  have c0_5 : w3.cell? ⟨gs, 5, none⟩ = some (.int .i64 0) := cell_of_row _ _ _ _ _ (0, 0) HB3.out.r0
  go_wp2_with fail
  refine (FT.out _).mono ?_
  rintro e w4 ⟨rfl, hb4⟩
  have HB4 := Lib.hid (HB3.out.next hb4)
  clear c0_0 c0_1 c0_2 c0_3 c0_4 c0_5 hb4 HB3
  have c0_0 : w4.cell? ⟨gs, 0, none⟩ = some (.int .i64 2) := cell_of_row _ _ _ _ _ (0, 0) HB4.out.r0
  have c0_1 : w4.cell? ⟨gs, 1, none⟩ = some (.int .i64 3) := cell_of_row _ _ _ _ _ (0, 0) HB4.out.r0
  have c0_2 : w4.cell? ⟨gs, 2, none⟩ = some (.int .i64 2) := cell_of_row _ _ _ _ _ (0, 0) HB4.out.r0
  have c0_3 : w4.cell? ⟨gs, 3, none⟩ = some (.int .i64 2) := cell_of_row _ _ _ _ _ (0, 0) HB4.out.r0
  have c0_4 : w4.cell? ⟨gs, 4, none⟩ = some (.int .i64 0) := cell_of_row _ _ _ _ _ (0, 0) HB4.out.r0
  have c0_5 : w4.cell? ⟨gs, 5, none⟩ = some (.int .i64 0) := cell_of_row _ _ _ _ _ (0, 0) HB4.out.r0
  go_wp2_with (with_reducible show wpList _ _ _ (Oper.mk _ (.store 23 _ _) _ _ _ _ :: _) _ _; refine Hid.out ?_)
  refine Lib.hid ?_
  have l5_0 : gs < w4.heap.size := (Array.getElem?_eq_some_iff.1 HB4.out.r0).1
  have lw5 : w.heap.size ≤ w4.heap.size := HB4.out.below.size
  refine wpList_put rfl 23 _ _ rfl w4.heap.size #[.int .i64 2, .int .i64 3, .int .i64 1, .int .i64 2, .int .i64 0, .int .i64 0] _ 23 rfl rfl (heap_alloc_new w4 _) (by kernel_rfl) rfl (by kernel_rfl) ?_
  intro w5 hr5 hg5
  have HB5 : Hid (Bx w [(w4.heap.size, .cells #[.int .i64 2, .int .i64 3, .int .i64 1, .int .i64 2, .int .i64 0, .int .i64 0] 23 (0, 0)), (gs, .cells #[.int .i64 2, .int .i64 3, .int .i64 2, .int .i64 2, .int .i64 0, .int .i64 0] 23 (0, 0))] w5) := Lib.hid ((HB4.out.make (heap_alloc_new w4 (.cells #[.int .i64 0, .int .i64 0, .int .i64 0, .int .i64 0, .int .i64 0, .int .i64 0] 23)) ((Below.refl w4.heap.size w4).alloc (Nat.le_refl _) _)).put HB4.out.below.size hg5.out hr5.out (by simp only [List.mem_cons, List.not_mem_nil, or_false]; rintro p (rfl | rfl) <;> simp <;> omega))
  clear c0_0 c0_1 c0_2 c0_3 c0_4 c0_5 hr5 hg5 HB4
  generalize w4.heap.size = gt at *
  have c0_0 : w5.cell? ⟨gt, 0, none⟩ = some (.int .i64 2) := cell_of_row _ _ _ _ _ (0, 0) HB5.out.r0
  have c0_1 : w5.cell? ⟨gt, 1, none⟩ = some (.int .i64 3) := cell_of_row _ _ _ _ _ (0, 0) HB5.out.r0
  have c0_2 : w5.cell? ⟨gt, 2, none⟩ = some (.int .i64 1) := cell_of_row _ _ _ _ _ (0, 0) HB5.out.r0
  have c0_3 : w5.cell? ⟨gt, 3, none⟩ = some (.int .i64 2) := cell_of_row _ _ _ _ _ (0, 0) HB5.out.r0
  have c0_4 : w5.cell? ⟨gt, 4, none⟩ = some (.int .i64 0) := cell_of_row _ _ _ _ _ (0, 0) HB5.out.r0
  have c0_5 : w5.cell? ⟨gt, 5, none⟩ = some (.int .i64 0) := cell_of_row _ _ _ _ _ (0, 0) HB5.out.r0
  have c1_0 : w5.cell? ⟨gs, 0, none⟩ = some (.int .i64 2) := cell_of_row _ _ _ _ _ (0, 0) HB5.out.r1
  have c1_1 : w5.cell? ⟨gs, 1, none⟩ = some (.int .i64 3) := cell_of_row _ _ _ _ _ (0, 0) HB5.out.r1
  have c1_2 : w5.cell? ⟨gs, 2, none⟩ = some (.int .i64 2) := cell_of_row _ _ _ _ _ (0, 0) HB5.out.r1
  have c1_3 : w5.cell? ⟨gs, 3, none⟩ = some (.int .i64 2) := cell_of_row _ _ _ _ _ (0, 0) HB5.out.r1
  have c1_4 : w5.cell? ⟨gs, 4, none⟩ = some (.int .i64 0) := cell_of_row _ _ _ _ _ (0, 0) HB5.out.r1
  have c1_5 : w5.cell? ⟨gs, 5, none⟩ = some (.int .i64 0) := cell_of_row _ _ _ _ _ (0, 0) HB5.out.r1
  go_wp2_with fail
  refine (FU.out _).mono ?_
  rintro e w6 ⟨rfl, hb6⟩
  have HB6 := Lib.hid (HB5.out.next hb6)
  clear c0_0 c0_1 c0_2 c0_3 c0_4 c0_5 c1_0 c1_1 c1_2 c1_3 c1_4 c1_5 hb6 HB5
  have c0_0 : w6.cell? ⟨gt, 0, none⟩ = some (.int .i64 2) := cell_of_row _ _ _ _ _ (0, 0) HB6.out.r0
  have c0_1 : w6.cell? ⟨gt, 1, none⟩ = some (.int .i64 3) := cell_of_row _ _ _ _ _ (0, 0) HB6.out.r0
  have c0_2 : w6.cell? ⟨gt, 2, none⟩ = some (.int .i64 1) := cell_of_row _ _ _ _ _ (0, 0) HB6.out.r0
  have c0_3 : w6.cell? ⟨gt, 3, none⟩ = some (.int .i64 2) := cell_of_row _ _ _ _ _ (0, 0) HB6.out.r0
  have c0_4 : w6.cell? ⟨gt, 4, none⟩ = some (.int .i64 0) := cell_of_row _ _ _ _ _ (0, 0) HB6.out.r0
  have c0_5 : w6.cell? ⟨gt, 5, none⟩ = some (.int .i64 0) := cell_of_row _ _ _ _ _ (0, 0) HB6.out.r0
  have c1_0 : w6.cell? ⟨gs, 0, none⟩ = some (.int .i64 2) := cell_of_row _ _ _ _ _ (0, 0) HB6.out.r1
  have c1_1 : w6.cell? ⟨gs, 1, none⟩ = some (.int .i64 3) := cell_of_row _ _ _ _ _ (0, 0) HB6.out.r1
  have c1_2 : w6.cell? ⟨gs, 2, none⟩ = some (.int .i64 2) := cell_of_row _ _ _ _ _ (0, 0) HB6.out.r1
  have c1_3 : w6.cell? ⟨gs, 3, none⟩ = some (.int .i64 2) := cell_of_row _ _ _ _ _ (0, 0) HB6.out.r1
  have c1_4 : w6.cell? ⟨gs, 4, none⟩ = some (.int .i64 0) := cell_of_row _ _ _ _ _ (0, 0) HB6.out.r1
  have c1_5 : w6.cell? ⟨gs, 5, none⟩ = some (.int .i64 0) := cell_of_row _ _ _ _ _ (0, 0) HB6.out.r1
  go_wp2_with (with_reducible show wpList _ _ _ (Oper.mk _ (.store 23 _ _) _ _ _ _ :: _) _ _; refine Hid.out ?_)
  refine Lib.hid ?_
  have l7_0 : gt < w6.heap.size := (Array.getElem?_eq_some_iff.1 HB6.out.r0).1
  have l7_1 : gs < w6.heap.size := (Array.getElem?_eq_some_iff.1 HB6.out.r1).1
  have lw7 : w.heap.size ≤ w6.heap.size := HB6.out.below.size
  refine wpList_put rfl 23 _ _ rfl w6.heap.size #[.int .i64 3, .int .i64 3, .int .i64 0, .int .i64 2, .int .i64 0, .int .i64 0] _ 23 rfl rfl (heap_alloc_new w6 _) (by kernel_rfl) rfl (by kernel_rfl) ?_
  intro w7 hr7 hg7
  have HB7 : Hid (Bx w [(w6.heap.size, .cells #[.int .i64 3, .int .i64 3, .int .i64 0, .int .i64 2, .int .i64 0, .int .i64 0] 23 (0, 0)), (gt, .cells #[.int .i64 2, .int .i64 3, .int .i64 1, .int .i64 2, .int .i64 0, .int .i64 0] 23 (0, 0)), (gs, .cells #[.int .i64 2, .int .i64 3, .int .i64 2, .int .i64 2, .int .i64 0, .int .i64 0] 23 (0, 0))] w7) := Lib.hid ((HB6.out.make (heap_alloc_new w6 (.cells #[.int .i64 0, .int .i64 0, .int .i64 0, .int .i64 0, .int .i64 0, .int .i64 0] 23)) ((Below.refl w6.heap.size w6).alloc (Nat.le_refl _) _)).put HB6.out.below.size hg7.out hr7.out (by simp only [List.mem_cons, List.not_mem_nil, or_false]; rintro p (rfl | rfl | rfl) <;> simp <;> omega))
  clear c0_0 c0_1 c0_2 c0_3 c0_4 c0_5 c1_0 c1_1 c1_2 c1_3 c1_4 c1_5 hr7 hg7 HB6
  generalize w6.heap.size = gu at *
  have c0_0 : w7.cell? ⟨gu, 0, none⟩ = some (.int .i64 3) := cell_of_row _ _ _ _ _ (0, 0) HB7.out.r0
  have c0_1 : w7.cell? ⟨gu, 1, none⟩ = some (.int .i64 3) := cell_of_row _ _ _ _ _ (0, 0) HB7.out.r0
  have c0_2 : w7.cell? ⟨gu, 2, none⟩ = some (.int .i64 0) := cell_of_row _ _ _ _ _ (0, 0) HB7.out.r0
  have c0_3 : w7.cell? ⟨gu, 3, none⟩ = some (.int .i64 2) := cell_of_row _ _ _ _ _ (0, 0) HB7.out.r0
  have c0_4 : w7.cell? ⟨gu, 4, none⟩ = some (.int .i64 0) := cell_of_row _ _ _ _ _ (0, 0) HB7.out.r0
  have c0_5 : w7.cell? ⟨gu, 5, none⟩ = some (.int .i64 0) := cell_of_row _ _ _ _ _ (0, 0) HB7.out.r0
  have c1_0 : w7.cell? ⟨gt, 0, none⟩ = some (.int .i64 2) := cell_of_row _ _ _ _ _ (0, 0) HB7.out.r1
  have c1_1 : w7.cell? ⟨gt, 1, none⟩ = some (.int .i64 3) := cell_of_row _ _ _ _ _ (0, 0) HB7.out.r1
  have c1_2 : w7.cell? ⟨gt, 2, none⟩ = some (.int .i64 1) := cell_of_row _ _ _ _ _ (0, 0) HB7.out.r1
  have c1_3 : w7.cell? ⟨gt, 3, none⟩ = some (.int .i64 2) := cell_of_row _ _ _ _ _ (0, 0) HB7.out.r1
  have c1_4 : w7.cell? ⟨gt, 4, none⟩ = some (.int .i64 0) := cell_of_row _ _ _ _ _ (0, 0) HB7.out.r1
  have c1_5 : w7.cell? ⟨gt, 5, none⟩ = some (.int .i64 0) := cell_of_row _ _ _ _ _ (0, 0) HB7.out.r1
  have c2_0 : w7.cell? ⟨gs, 0, none⟩ = some (.int .i64 2) := cell_of_row _ _ _ _ _ (0, 0) HB7.out.r2
  have c2_1 : w7.cell? ⟨gs, 1, none⟩ = some (.int .i64 3) := cell_of_row _ _ _ _ _ (0, 0) HB7.out.r2
  have c2_2 : w7.cell? ⟨gs, 2, none⟩ = some (.int .i64 2) := cell_of_row _ _ _ _ _ (0, 0) HB7.out.r2
  have c2_3 : w7.cell? ⟨gs, 3, none⟩ = some (.int .i64 2) := cell_of_row _ _ _ _ _ (0, 0) HB7.out.r2
  have c2_4 : w7.cell? ⟨gs, 4, none⟩ = some (.int .i64 0) := cell_of_row _ _ _ _ _ (0, 0) HB7.out.r2
  have c2_5 : w7.cell? ⟨gs, 5, none⟩ = some (.int .i64 0) := cell_of_row _ _ _ _ _ (0, 0) HB7.out.r2
  go_wp2_with fail
  refine (FR.out _).mono ?_
  rintro e w8 ⟨rfl, hb8⟩
  have HB8 := Lib.hid (HB7.out.next hb8)
  clear c0_0 c0_1 c0_2 c0_3 c0_4 c0_5 c1_0 c1_1 c1_2 c1_3 c1_4 c1_5 c2_0 c2_1 c2_2 c2_3 c2_4 c2_5 hb8 HB7
  have c0_0 : w8.cell? ⟨gu, 0, none⟩ = some (.int .i64 3) := cell_of_row _ _ _ _ _ (0, 0) HB8.out.r0
  have c0_1 : w8.cell? ⟨gu, 1, none⟩ = some (.int .i64 3) := cell_of_row _ _ _ _ _ (0, 0) HB8.out.r0
  have c0_2 : w8.cell? ⟨gu, 2, none⟩ = some (.int .i64 0) := cell_of_row _ _ _ _ _ (0, 0) HB8.out.r0
  have c0_3 : w8.cell? ⟨gu, 3, none⟩ = some (.int .i64 2) := cell_of_row _ _ _ _ _ (0, 0) HB8.out.r0
  have c0_4 : w8.cell? ⟨gu, 4, none⟩ = some (.int .i64 0) := cell_of_row _ _ _ _ _ (0, 0) HB8.out.r0
  have c0_5 : w8.cell? ⟨gu, 5, none⟩ = some (.int .i64 0) := cell_of_row _ _ _ _ _ (0, 0) HB8.out.r0
  have c1_0 : w8.cell? ⟨gt, 0, none⟩ = some (.int .i64 2) := cell_of_row _ _ _ _ _ (0, 0) HB8.out.r1
  have c1_1 : w8.cell? ⟨gt, 1, none⟩ = some (.int .i64 3) := cell_of_row _ _ _ _ _ (0, 0) HB8.out.r1
  have c1_2 : w8.cell? ⟨gt, 2, none⟩ = some (.int .i64 1) := cell_of_row _ _ _ _ _ (0, 0) HB8.out.r1
  have c1_3 : w8.cell? ⟨gt, 3, none⟩ = some (.int .i64 2) := cell_of_row _ _ _ _ _ (0, 0) HB8.out.r1
  have c1_4 : w8.cell? ⟨gt, 4, none⟩ = some (.int .i64 0) := cell_of_row _ _ _ _ _ (0, 0) HB8.out.r1
  have c1_5 : w8.cell? ⟨gt, 5, none⟩ = some (.int .i64 0) := cell_of_row _ _ _ _ _ (0, 0) HB8.out.r1
  have c2_0 : w8.cell? ⟨gs, 0, none⟩ = some (.int .i64 2) := cell_of_row _ _ _ _ _ (0, 0) HB8.out.r2
  have c2_1 : w8.cell? ⟨gs, 1, none⟩ = some (.int .i64 3) := cell_of_row _ _ _ _ _ (0, 0) HB8.out.r2
  have c2_2 : w8.cell? ⟨gs, 2, none⟩ = some (.int .i64 2) := cell_of_row _ _ _ _ _ (0, 0) HB8.out.r2
  have c2_3 : w8.cell? ⟨gs, 3, none⟩ = some (.int .i64 2) := cell_of_row _ _ _ _ _ (0, 0) HB8.out.r2
  have c2_4 : w8.cell? ⟨gs, 4, none⟩ = some (.int .i64 0) := cell_of_row _ _ _ _ _ (0, 0) HB8.out.r2
  have c2_5 : w8.cell? ⟨gs, 5, none⟩ = some (.int .i64 0) := cell_of_row _ _ _ _ _ (0, 0) HB8.out.r2
  go_wp2_with fail
  refine (FR2.out _).mono ?_
  rintro e w9 ⟨rfl, hb9⟩
  have HB9 := Lib.hid (HB8.out.next hb9)
  clear c0_0 c0_1 c0_2 c0_3 c0_4 c0_5 c1_0 c1_1 c1_2 c1_3 c1_4 c1_5 c2_0 c2_1 c2_2 c2_3 c2_4 c2_5 hb9 HB8
  have c0_0 : w9.cell? ⟨gu, 0, none⟩ = some (.int .i64 3) := cell_of_row _ _ _ _ _ (0, 0) HB9.out.r0
  have c0_1 : w9.cell? ⟨gu, 1, none⟩ = some (.int .i64 3) := cell_of_row _ _ _ _ _ (0, 0) HB9.out.r0
  have c0_2 : w9.cell? ⟨gu, 2, none⟩ = some (.int .i64 0) := cell_of_row _ _ _ _ _ (0, 0) HB9.out.r0
  have c0_3 : w9.cell? ⟨gu, 3, none⟩ = some (.int .i64 2) := cell_of_row _ _ _ _ _ (0, 0) HB9.out.r0
  have c0_4 : w9.cell? ⟨gu, 4, none⟩ = some (.int .i64 0) := cell_of_row _ _ _ _ _ (0, 0) HB9.out.r0
  have c0_5 : w9.cell? ⟨gu, 5, none⟩ = some (.int .i64 0) := cell_of_row _ _ _ _ _ (0, 0) HB9.out.r0
  have c1_0 : w9.cell? ⟨gt, 0, none⟩ = some (.int .i64 2) := cell_of_row _ _ _ _ _ (0, 0) HB9.out.r1
  have c1_1 : w9.cell? ⟨gt, 1, none⟩ = some (.int .i64 3) := cell_of_row _ _ _ _ _ (0, 0) HB9.out.r1
  have c1_2 : w9.cell? ⟨gt, 2, none⟩ = some (.int .i64 1) := cell_of_row _ _ _ _ _ (0, 0) HB9.out.r1
  have c1_3 : w9.cell? ⟨gt, 3, none⟩ = some (.int .i64 2) := cell_of_row _ _ _ _ _ (0, 0) HB9.out.r1
  have c1_4 : w9.cell? ⟨gt, 4, none⟩ = some (.int .i64 0) := cell_of_row _ _ _ _ _ (0, 0) HB9.out.r1
  have c1_5 : w9.cell? ⟨gt, 5, none⟩ = some (.int .i64 0) := cell_of_row _ _ _ _ _ (0, 0) HB9.out.r1
  have c2_0 : w9.cell? ⟨gs, 0, none⟩ = some (.int .i64 2) := cell_of_row _ _ _ _ _ (0, 0) HB9.out.r2
  have c2_1 : w9.cell? ⟨gs, 1, none⟩ = some (.int .i64 3) := cell_of_row _ _ _ _ _ (0, 0) HB9.out.r2
  have c2_2 : w9.cell? ⟨gs, 2, none⟩ = some (.int .i64 2) := cell_of_row _ _ _ _ _ (0, 0) HB9.out.r2
  have c2_3 : w9.cell? ⟨gs, 3, none⟩ = some (.int .i64 2) := cell_of_row _ _ _ _ _ (0, 0) HB9.out.r2
  have c2_4 : w9.cell? ⟨gs, 4, none⟩ = some (.int .i64 0) := cell_of_row _ _ _ _ _ (0, 0) HB9.out.r2
  have c2_5 : w9.cell? ⟨gs, 5, none⟩ = some (.int .i64 0) := cell_of_row _ _ _ _ _ (0, 0) HB9.out.r2
  go_wp2_with fail
  refine (FI.out _).mono ?_
  rintro e w10 ⟨rfl, hb10⟩
  have HB10 := Lib.hid (HB9.out.next hb10)
  clear c0_0 c0_1 c0_2 c0_3 c0_4 c0_5 c1_0 c1_1 c1_2 c1_3 c1_4 c1_5 c2_0 c2_1 c2_2 c2_3 c2_4 c2_5 hb10 HB9
  have c0_0 : w10.cell? ⟨gu, 0, none⟩ = some (.int .i64 3) := cell_of_row _ _ _ _ _ (0, 0) HB10.out.r0
  have c0_1 : w10.cell? ⟨gu, 1, none⟩ = some (.int .i64 3) := cell_of_row _ _ _ _ _ (0, 0) HB10.out.r0
  have c0_2 : w10.cell? ⟨gu, 2, none⟩ = some (.int .i64 0) := cell_of_row _ _ _ _ _ (0, 0) HB10.out.r0
  have c0_3 : w10.cell? ⟨gu, 3, none⟩ = some (.int .i64 2) := cell_of_row _ _ _ _ _ (0, 0) HB10.out.r0
  have c0_4 : w10.cell? ⟨gu, 4, none⟩ = some (.int .i64 0) := cell_of_row _ _ _ _ _ (0, 0) HB10.out.r0
  have c0_5 : w10.cell? ⟨gu, 5, none⟩ = some (.int .i64 0) := cell_of_row _ _ _ _ _ (0, 0) HB10.out.r0
  have c1_0 : w10.cell? ⟨gt, 0, none⟩ = some (.int .i64 2) := cell_of_row _ _ _ _ _ (0, 0) HB10.out.r1
  have c1_1 : w10.cell? ⟨gt, 1, none⟩ = some (.int .i64 3) := cell_of_row _ _ _ _ _ (0, 0) HB10.out.r1
  have c1_2 : w10.cell? ⟨gt, 2, none⟩ = some (.int .i64 1) := cell_of_row _ _ _ _ _ (0, 0) HB10.out.r1
  have c1_3 : w10.cell? ⟨gt, 3, none⟩ = some (.int .i64 2) := cell_of_row _ _ _ _ _ (0, 0) HB10.out.r1
  have c1_4 : w10.cell? ⟨gt, 4, none⟩ = some (.int .i64 0) := cell_of_row _ _ _ _ _ (0, 0) HB10.out.r1
  have c1_5 : w10.cell? ⟨gt, 5, none⟩ = some (.int .i64 0) := cell_of_row _ _ _ _ _ (0, 0) HB10.out.r1
  have c2_0 : w10.cell? ⟨gs, 0, none⟩ = some (.int .i64 2) := cell_of_row _ _ _ _ _ (0, 0) HB10.out.r2
  have c2_1 : w10.cell? ⟨gs, 1, none⟩ = some (.int .i64 3) := cell_of_row _ _ _ _ _ (0, 0) HB10.out.r2
  have c2_2 : w10.cell? ⟨gs, 2, none⟩ = some (.int .i64 2) := cell_of_row _ _ _ _ _ (0, 0) HB10.out.r2
  have c2_3 : w10.cell? ⟨gs, 3, none⟩ = some (.int .i64 2) := cell_of_row _ _ _ _ _ (0, 0) HB10.out.r2
  have c2_4 : w10.cell? ⟨gs, 4, none⟩ = some (.int .i64 0) := cell_of_row _ _ _ _ _ (0, 0) HB10.out.r2
  have c2_5 : w10.cell? ⟨gs, 5, none⟩ = some (.int .i64 0) := cell_of_row _ _ _ _ _ (0, 0) HB10.out.r2
  go_wp2_with fail
  go_ret
  exact ⟨rfl, HB10.out.below⟩
end Go.Proofs.Ytmfinebkikhceaa
