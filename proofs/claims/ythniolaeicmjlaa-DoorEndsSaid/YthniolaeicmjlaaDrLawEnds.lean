/- The law DoorEnds: a door whose movements take at most Travel ticks is idle again in time, whatever stands in it, and Late is never true. No condition. -/
import Derived.Test.YthniolaeicmjlaaDrSane
import Derived.Test.YthniolaeicmjlaaDrEndsM
import Derived.Test.YthniolaeicmjlaaDrOpen
import Derived.Deep.CutRange
namespace Go.Proofs.Ythniolaeicmjlaa
open Go.RowKit Go.ChangeShapes Go.WideShapes Go.ChangeAt

set_option maxRecDepth 100000 in
set_option maxHeartbeats 8000000 in
theorem lawDoorEnds_walk (x y z : Nat) (v : Value) (l : List Nat) (w : World) (hx : x < 256) (hy : y < 256) (hz : z < 256) (hv : VV w v (u8s l)) (h256 : ∀ s ∈ l, s < 256) (_hlen : l.length ≤ maxLen) :
    Calls Try.prog 5 #[.agg #[.int .u8 x, .int .u8 y, .int .u8 z], v] w fun e w' => e = .returned (.bool true) ∧ Below w.heap.size w w' := by
  obtain ⟨TT, hTe, hT⟩ : ∃ TT : Int, (1 : Int) + (x : Int) % 6 = TT ∧ (1 ≤ TT ∧ TT ≤ 6) := ⟨_, rfl, by omega⟩
  obtain ⟨dw, hDe, hD⟩ : ∃ dw : Int, (1 : Int) + (y : Int) % 8 = dw ∧ (1 ≤ dw ∧ dw ≤ 8) := ⟨_, rfl, by omega⟩
  obtain ⟨H, hHe, hH⟩ : ∃ H : Int, dw + (z : Int) % 30 = H ∧ (1 ≤ H ∧ H ≤ 40) := ⟨_, rfl, by omega⟩
  have F0 := Lib.hid (fun wx => step_to 0 0 0 0 0 TT dw H 0 0 0 0 false 0 2 false true 1 0 0 false 0 3 wx (by rw [Dr.stepF_of (by decide)]; rfl))
  obtain ⟨VA, vcap, rfl, hVA⟩ := hv
  have HVA := Lib.hid hVA
  have hul : (u8s l).length = l.length := by unfold u8s; simp
  rw [hul]
  clear hVA
  have HB0 := Lib.hid (bxs2 w (.cells #[.int .u8 x, .int .u8 y, .int .u8 z] 37) (.cells #[.int .i64 0, .int .i64 0, .int .i64 0, .int .i64 0, .int .i64 0, .int .i64 0, .int .i64 0, .int .i64 0, .int .i64 0] 23))
  go_enter Try.func5, Try.ntmps5
  go_wp2_with (with_reducible show wpList _ _ _ (Oper.mk _ (.store 23 _ _) _ _ _ _ :: _) _ _; refine Hid.out ?_)
  refine Lib.hid ?_
  refine wpList_put rfl 23 _ _ rfl (w.heap.size + 1) #[.int .i64 0, .int .i64 0, .int .i64 0, .int .i64 0, .int .i64 0, .int .i64 TT, .int .i64 dw, .int .i64 0, .int .i64 0] _ 23 rfl rfl HB0.out.r1 (by kernel_rfl) rfl (by kernel_rfl) ?_
  intro w1 hr1 hg1
  have HB1 : Hid (Bx w [(w.heap.size, .cells #[.int .u8 x, .int .u8 y, .int .u8 z] 37 (0, 0)), (w.heap.size + 1, .cells #[.int .i64 0, .int .i64 0, .int .i64 0, .int .i64 0, .int .i64 0, .int .i64 TT, .int .i64 dw, .int .i64 0, .int .i64 0] 23 (0, 0))] w1) := Lib.hid (HB0.out.put (by omega) hg1.out hr1.out (by simp only [List.mem_cons, List.not_mem_nil, or_false]; rintro p (rfl | rfl) <;> simp <;> omega))
  clear hr1 hg1 HB0
  have c0_0 : w1.cell? ⟨w.heap.size, 0, none⟩ = some (.int .u8 x) := cell_of_row _ _ _ _ _ (0, 0) HB1.out.r0
  have c0_1 : w1.cell? ⟨w.heap.size, 1, none⟩ = some (.int .u8 y) := cell_of_row _ _ _ _ _ (0, 0) HB1.out.r0
  have c0_2 : w1.cell? ⟨w.heap.size, 2, none⟩ = some (.int .u8 z) := cell_of_row _ _ _ _ _ (0, 0) HB1.out.r0
  have c1_0 : w1.cell? ⟨w.heap.size + 1, 0, none⟩ = some (.int .i64 0) := cell_of_row _ _ _ _ _ (0, 0) HB1.out.r1
  have c1_1 : w1.cell? ⟨w.heap.size + 1, 1, none⟩ = some (.int .i64 0) := cell_of_row _ _ _ _ _ (0, 0) HB1.out.r1
  have c1_2 : w1.cell? ⟨w.heap.size + 1, 2, none⟩ = some (.int .i64 0) := cell_of_row _ _ _ _ _ (0, 0) HB1.out.r1
  have c1_3 : w1.cell? ⟨w.heap.size + 1, 3, none⟩ = some (.int .i64 0) := cell_of_row _ _ _ _ _ (0, 0) HB1.out.r1
  have c1_4 : w1.cell? ⟨w.heap.size + 1, 4, none⟩ = some (.int .i64 0) := cell_of_row _ _ _ _ _ (0, 0) HB1.out.r1
  have c1_5 : w1.cell? ⟨w.heap.size + 1, 5, none⟩ = some (.int .i64 TT) := cell_of_row _ _ _ _ _ (0, 0) HB1.out.r1
  have c1_6 : w1.cell? ⟨w.heap.size + 1, 6, none⟩ = some (.int .i64 dw) := cell_of_row _ _ _ _ _ (0, 0) HB1.out.r1
  have c1_7 : w1.cell? ⟨w.heap.size + 1, 7, none⟩ = some (.int .i64 0) := cell_of_row _ _ _ _ _ (0, 0) HB1.out.r1
  have c1_8 : w1.cell? ⟨w.heap.size + 1, 8, none⟩ = some (.int .i64 0) := cell_of_row _ _ _ _ _ (0, 0) HB1.out.r1
  go_wp2_with (with_reducible show wpList _ _ _ (Oper.mk _ (.store 3 _ _) _ _ _ _ :: _) _ _; refine Hid.out ?_)
  refine Lib.hid ?_
  refine wpList_putCell rfl 3 _ _ rfl (w.heap.size + 1) 7 (.int .i64 H) _ _ 23 rfl rfl HB1.out.r1 (by kernel_rfl) (by simp) rfl rfl rfl ?_
  intro w2 hr2 hg2
  have HB2 : Hid (Bx w [(w.heap.size, .cells #[.int .u8 x, .int .u8 y, .int .u8 z] 37 (0, 0)), (w.heap.size + 1, .cells #[.int .i64 0, .int .i64 0, .int .i64 0, .int .i64 0, .int .i64 0, .int .i64 TT, .int .i64 dw, .int .i64 H, .int .i64 0] 23 (0, 0))] w2) := Lib.hid (HB1.out.put (by omega) hg2.out hr2.out (by simp only [List.mem_cons, List.not_mem_nil, or_false]; rintro p (rfl | rfl) <;> simp <;> omega))
  clear c0_0 c0_1 c0_2 c1_0 c1_1 c1_2 c1_3 c1_4 c1_5 c1_6 c1_7 c1_8 hr2 hg2 HB1
  have c0_0 : w2.cell? ⟨w.heap.size, 0, none⟩ = some (.int .u8 x) := cell_of_row _ _ _ _ _ (0, 0) HB2.out.r0
  have c0_1 : w2.cell? ⟨w.heap.size, 1, none⟩ = some (.int .u8 y) := cell_of_row _ _ _ _ _ (0, 0) HB2.out.r0
  have c0_2 : w2.cell? ⟨w.heap.size, 2, none⟩ = some (.int .u8 z) := cell_of_row _ _ _ _ _ (0, 0) HB2.out.r0
  have c1_0 : w2.cell? ⟨w.heap.size + 1, 0, none⟩ = some (.int .i64 0) := cell_of_row _ _ _ _ _ (0, 0) HB2.out.r1
  have c1_1 : w2.cell? ⟨w.heap.size + 1, 1, none⟩ = some (.int .i64 0) := cell_of_row _ _ _ _ _ (0, 0) HB2.out.r1
  have c1_2 : w2.cell? ⟨w.heap.size + 1, 2, none⟩ = some (.int .i64 0) := cell_of_row _ _ _ _ _ (0, 0) HB2.out.r1
  have c1_3 : w2.cell? ⟨w.heap.size + 1, 3, none⟩ = some (.int .i64 0) := cell_of_row _ _ _ _ _ (0, 0) HB2.out.r1
  have c1_4 : w2.cell? ⟨w.heap.size + 1, 4, none⟩ = some (.int .i64 0) := cell_of_row _ _ _ _ _ (0, 0) HB2.out.r1
  have c1_5 : w2.cell? ⟨w.heap.size + 1, 5, none⟩ = some (.int .i64 TT) := cell_of_row _ _ _ _ _ (0, 0) HB2.out.r1
  have c1_6 : w2.cell? ⟨w.heap.size + 1, 6, none⟩ = some (.int .i64 dw) := cell_of_row _ _ _ _ _ (0, 0) HB2.out.r1
  have c1_7 : w2.cell? ⟨w.heap.size + 1, 7, none⟩ = some (.int .i64 H) := cell_of_row _ _ _ _ _ (0, 0) HB2.out.r1
  have c1_8 : w2.cell? ⟨w.heap.size + 1, 8, none⟩ = some (.int .i64 0) := cell_of_row _ _ _ _ _ (0, 0) HB2.out.r1
  clear hTe hDe hHe
  go_wp2_with fail
  refine (F0.out _).mono ?_
  rintro e w3 ⟨rfl, hb3⟩
  have HB3 := Lib.hid (HB2.out.next hb3)
  clear c0_0 c0_1 c0_2 c1_0 c1_1 c1_2 c1_3 c1_4 c1_5 c1_6 c1_7 c1_8 hb3 HB2
  have c0_0 : w3.cell? ⟨w.heap.size, 0, none⟩ = some (.int .u8 x) := cell_of_row _ _ _ _ _ (0, 0) HB3.out.r0
  have c0_1 : w3.cell? ⟨w.heap.size, 1, none⟩ = some (.int .u8 y) := cell_of_row _ _ _ _ _ (0, 0) HB3.out.r0
  have c0_2 : w3.cell? ⟨w.heap.size, 2, none⟩ = some (.int .u8 z) := cell_of_row _ _ _ _ _ (0, 0) HB3.out.r0
  have c1_0 : w3.cell? ⟨w.heap.size + 1, 0, none⟩ = some (.int .i64 0) := cell_of_row _ _ _ _ _ (0, 0) HB3.out.r1
  have c1_1 : w3.cell? ⟨w.heap.size + 1, 1, none⟩ = some (.int .i64 0) := cell_of_row _ _ _ _ _ (0, 0) HB3.out.r1
  have c1_2 : w3.cell? ⟨w.heap.size + 1, 2, none⟩ = some (.int .i64 0) := cell_of_row _ _ _ _ _ (0, 0) HB3.out.r1
  have c1_3 : w3.cell? ⟨w.heap.size + 1, 3, none⟩ = some (.int .i64 0) := cell_of_row _ _ _ _ _ (0, 0) HB3.out.r1
  have c1_4 : w3.cell? ⟨w.heap.size + 1, 4, none⟩ = some (.int .i64 0) := cell_of_row _ _ _ _ _ (0, 0) HB3.out.r1
  have c1_5 : w3.cell? ⟨w.heap.size + 1, 5, none⟩ = some (.int .i64 TT) := cell_of_row _ _ _ _ _ (0, 0) HB3.out.r1
  have c1_6 : w3.cell? ⟨w.heap.size + 1, 6, none⟩ = some (.int .i64 dw) := cell_of_row _ _ _ _ _ (0, 0) HB3.out.r1
  have c1_7 : w3.cell? ⟨w.heap.size + 1, 7, none⟩ = some (.int .i64 H) := cell_of_row _ _ _ _ _ (0, 0) HB3.out.r1
  have c1_8 : w3.cell? ⟨w.heap.size + 1, 8, none⟩ = some (.int .i64 0) := cell_of_row _ _ _ _ _ (0, 0) HB3.out.r1
  go_wp2_with (with_reducible show wpList _ _ _ (Oper.mk _ (.store 25 _ _) _ _ _ _ :: _) _ _; refine Hid.out ?_)
  refine Lib.hid ?_
  have l4_0 : w.heap.size < w3.heap.size := (Array.getElem?_eq_some_iff.1 HB3.out.r0).1
  have l4_1 : w.heap.size + 1 < w3.heap.size := (Array.getElem?_eq_some_iff.1 HB3.out.r1).1
  have lw4 : w.heap.size ≤ w3.heap.size := HB3.out.below.size
  refine wpList_put rfl 25 _ _ rfl w3.heap.size #[.int .i64 1, .int .i64 0, .int .i64 0, .bool false, .int .i64 0] _ 25 rfl rfl (heap_alloc_new w3 _) (by kernel_rfl) rfl (by kernel_rfl) ?_
  intro w4 hr4 hg4
  have HB4 : Hid (Bx w [(w3.heap.size, .cells #[.int .i64 1, .int .i64 0, .int .i64 0, .bool false, .int .i64 0] 25 (0, 0)), (w.heap.size, .cells #[.int .u8 x, .int .u8 y, .int .u8 z] 37 (0, 0)), (w.heap.size + 1, .cells #[.int .i64 0, .int .i64 0, .int .i64 0, .int .i64 0, .int .i64 0, .int .i64 TT, .int .i64 dw, .int .i64 H, .int .i64 0] 23 (0, 0))] w4) := Lib.hid ((HB3.out.make (heap_alloc_new w3 (.cells #[.int .i64 0, .int .i64 0, .int .i64 0, .bool false, .int .i64 0] 25)) ((Below.refl w3.heap.size w3).alloc (Nat.le_refl _) _)).put HB3.out.below.size hg4.out hr4.out (by simp only [List.mem_cons, List.not_mem_nil, or_false]; rintro p (rfl | rfl | rfl) <;> simp <;> omega))
  clear c0_0 c0_1 c0_2 c1_0 c1_1 c1_2 c1_3 c1_4 c1_5 c1_6 c1_7 c1_8 hr4 hg4 HB3
  generalize w3.heap.size = gs at *
  have c0_0 : w4.cell? ⟨gs, 0, none⟩ = some (.int .i64 1) := cell_of_row _ _ _ _ _ (0, 0) HB4.out.r0
  have c0_1 : w4.cell? ⟨gs, 1, none⟩ = some (.int .i64 0) := cell_of_row _ _ _ _ _ (0, 0) HB4.out.r0
  have c0_2 : w4.cell? ⟨gs, 2, none⟩ = some (.int .i64 0) := cell_of_row _ _ _ _ _ (0, 0) HB4.out.r0
  have c0_3 : w4.cell? ⟨gs, 3, none⟩ = some (.bool false) := cell_of_row _ _ _ _ _ (0, 0) HB4.out.r0
  have c0_4 : w4.cell? ⟨gs, 4, none⟩ = some (.int .i64 0) := cell_of_row _ _ _ _ _ (0, 0) HB4.out.r0
  have c1_0 : w4.cell? ⟨w.heap.size, 0, none⟩ = some (.int .u8 x) := cell_of_row _ _ _ _ _ (0, 0) HB4.out.r1
  have c1_1 : w4.cell? ⟨w.heap.size, 1, none⟩ = some (.int .u8 y) := cell_of_row _ _ _ _ _ (0, 0) HB4.out.r1
  have c1_2 : w4.cell? ⟨w.heap.size, 2, none⟩ = some (.int .u8 z) := cell_of_row _ _ _ _ _ (0, 0) HB4.out.r1
  have c2_0 : w4.cell? ⟨w.heap.size + 1, 0, none⟩ = some (.int .i64 0) := cell_of_row _ _ _ _ _ (0, 0) HB4.out.r2
  have c2_1 : w4.cell? ⟨w.heap.size + 1, 1, none⟩ = some (.int .i64 0) := cell_of_row _ _ _ _ _ (0, 0) HB4.out.r2
  have c2_2 : w4.cell? ⟨w.heap.size + 1, 2, none⟩ = some (.int .i64 0) := cell_of_row _ _ _ _ _ (0, 0) HB4.out.r2
  have c2_3 : w4.cell? ⟨w.heap.size + 1, 3, none⟩ = some (.int .i64 0) := cell_of_row _ _ _ _ _ (0, 0) HB4.out.r2
  have c2_4 : w4.cell? ⟨w.heap.size + 1, 4, none⟩ = some (.int .i64 0) := cell_of_row _ _ _ _ _ (0, 0) HB4.out.r2
  have c2_5 : w4.cell? ⟨w.heap.size + 1, 5, none⟩ = some (.int .i64 TT) := cell_of_row _ _ _ _ _ (0, 0) HB4.out.r2
  have c2_6 : w4.cell? ⟨w.heap.size + 1, 6, none⟩ = some (.int .i64 dw) := cell_of_row _ _ _ _ _ (0, 0) HB4.out.r2
  have c2_7 : w4.cell? ⟨w.heap.size + 1, 7, none⟩ = some (.int .i64 H) := cell_of_row _ _ _ _ _ (0, 0) HB4.out.r2
  have c2_8 : w4.cell? ⟨w.heap.size + 1, 8, none⟩ = some (.int .i64 0) := cell_of_row _ _ _ _ _ (0, 0) HB4.out.r2
  go_wp2_with fail
  have hgs : w.heap.size + 1 < gs := by have := HB4.out.below.size; omega
  go_loopw [7, 8, 9, 10, 11] (fun vc vp vr vl vi wr => ∃ (s : Dr) (cmd place row last : Int) (i : Nat), vc = .int .i64 cmd ∧ vp = .int .i64 place ∧ vr = .int .i64 row ∧ vl = .int .i64 last ∧ vi = .int .i64 i ∧ Dr.DInv TT H i s cmd place row last ∧ Bx w [(gs, .cells #[.int .i64 s.st, .int .i64 s.ti, .int .i64 s.si, .bool s.nu, .int .i64 s.cy] 25 (0, 0)), (w.heap.size, .cells #[.int .u8 x, .int .u8 y, .int .u8 z] 37 (0, 0)), (w.heap.size + 1, .cells #[.int .i64 0, .int .i64 0, .int .i64 0, .int .i64 0, .int .i64 0, .int .i64 TT, .int .i64 dw, .int .i64 H, .int .i64 0] 23 (0, 0))] wr) (fun _ _ _ _ vi _ => 100 - (intOf vi).toNat)
  case atStart => exact ⟨⟨1, 0, 0, false, 0⟩, 3, 2, 0, 0, 1, rfl, rfl, rfl, rfl, rfl, Dr.ends_start hT.1 hH.1, HB4.out⟩
  case round =>
    obtain ⟨s, cmd, place, row, last, i, rfl, rfl, rfl, rfl, rfl, hInv, hbr⟩ := hrel
    have HBR := Lib.hid hbr
    have HINV := Lib.hid hInv
    clear hbr HB4
    clear F0
    have hle := Dr.ends_le hInv hT.1 hH.1
    have hii := hInv.ii
    have hrr := hInv.rr
    have hcond : (i : Int) ≤ 2 * TT + H + 2 := by omega
    have hi100 : i ≤ 100 := by omega
    have hcondB : decide ((i : Int) ≤ 2 * TT + H + 2) = true := decide_eq_true hcond
    have c0_0 : wr.cell? ⟨gs, 0, none⟩ = some (.int .i64 s.st) := cell_of_row _ _ _ _ _ (0, 0) HBR.out.r0
    have c0_1 : wr.cell? ⟨gs, 1, none⟩ = some (.int .i64 s.ti) := cell_of_row _ _ _ _ _ (0, 0) HBR.out.r0
    have c0_2 : wr.cell? ⟨gs, 2, none⟩ = some (.int .i64 s.si) := cell_of_row _ _ _ _ _ (0, 0) HBR.out.r0
    have c0_3 : wr.cell? ⟨gs, 3, none⟩ = some (.bool s.nu) := cell_of_row _ _ _ _ _ (0, 0) HBR.out.r0
    have c0_4 : wr.cell? ⟨gs, 4, none⟩ = some (.int .i64 s.cy) := cell_of_row _ _ _ _ _ (0, 0) HBR.out.r0
    have c1_0 : wr.cell? ⟨w.heap.size, 0, none⟩ = some (.int .u8 x) := cell_of_row _ _ _ _ _ (0, 0) HBR.out.r1
    have c1_1 : wr.cell? ⟨w.heap.size, 1, none⟩ = some (.int .u8 y) := cell_of_row _ _ _ _ _ (0, 0) HBR.out.r1
    have c1_2 : wr.cell? ⟨w.heap.size, 2, none⟩ = some (.int .u8 z) := cell_of_row _ _ _ _ _ (0, 0) HBR.out.r1
    have c2_0 : wr.cell? ⟨w.heap.size + 1, 0, none⟩ = some (.int .i64 0) := cell_of_row _ _ _ _ _ (0, 0) HBR.out.r2
    have c2_1 : wr.cell? ⟨w.heap.size + 1, 1, none⟩ = some (.int .i64 0) := cell_of_row _ _ _ _ _ (0, 0) HBR.out.r2
    have c2_2 : wr.cell? ⟨w.heap.size + 1, 2, none⟩ = some (.int .i64 0) := cell_of_row _ _ _ _ _ (0, 0) HBR.out.r2
    have c2_3 : wr.cell? ⟨w.heap.size + 1, 3, none⟩ = some (.int .i64 0) := cell_of_row _ _ _ _ _ (0, 0) HBR.out.r2
    have c2_4 : wr.cell? ⟨w.heap.size + 1, 4, none⟩ = some (.int .i64 0) := cell_of_row _ _ _ _ _ (0, 0) HBR.out.r2
    have c2_5 : wr.cell? ⟨w.heap.size + 1, 5, none⟩ = some (.int .i64 TT) := cell_of_row _ _ _ _ _ (0, 0) HBR.out.r2
    have c2_6 : wr.cell? ⟨w.heap.size + 1, 6, none⟩ = some (.int .i64 dw) := cell_of_row _ _ _ _ _ (0, 0) HBR.out.r2
    have c2_7 : wr.cell? ⟨w.heap.size + 1, 7, none⟩ = some (.int .i64 H) := cell_of_row _ _ _ _ _ (0, 0) HBR.out.r2
    have c2_8 : wr.cell? ⟨w.heap.size + 1, 8, none⟩ = some (.int .i64 0) := cell_of_row _ _ _ _ _ (0, 0) HBR.out.r2
    go_upto_if 54 with fail
    go_cut [12] from 41 to 122 (fun v12 wx => ∃ n : Nat, n < 256 ∧ v12 = .int .u8 n ∧ wx = wr)
    case first =>
      by_cases hl0 : l.length = 0
      · have z0 : ¬ (0 : Int) < (l.length : Int) := by omega
        clear hl0
        go_wp2_with fail
        go_meet
        exact ⟨0, by omega, rfl, rfl⟩
      · have hk : i % l.length < l.length := Nat.mod_lt _ (by omega)
        obtain ⟨vb, voff, rfl, hvb, hvc⟩ := HVA.out.at_ (k := i % l.length) (by rw [hul]; exact hk)
        have hg : (u8s l)[i % l.length]'(by rw [hul]; exact hk) = .int .u8 ((l[i % l.length] : Nat) : Int) := by simp [u8s]
        rw [hg] at hvc
        have hn := h256 _ (List.getElem_mem hk)
        generalize l[i % l.length] = n at *
        have hvr : wr.cell? ⟨vb, voff + i % l.length, none⟩ = some (.int .u8 n) := (HBR.out.below.cell (p := ⟨vb, _, none⟩) hvb).trans hvc
        have hpos : (0 : Int) < (l.length : Int) := by omega
        have hnz : ¬ (l.length : Int) = 0 := by omega
        have htm : (i : Int).tmod (l.length : Int) = ((i % l.length : Nat) : Int) := by rw [Int.tmod_eq_emod_of_nonneg (by omega)]; rfl
        have hkI : ((i % l.length : Nat) : Int) < (l.length : Int) := by omega
        have hem : (i : Int) % (l.length : Int) = ((i % l.length : Nat) : Int) := rfl
        generalize i % l.length = k at *
        go_wp2_with fail
        go_meet
        exact ⟨n, hn, rfl, rfl⟩
    case rest =>
      obtain ⟨n, hn, rfl, hwc⟩ := hcut
      replace hwc := hwc.symm
      subst hwc
      clear HVA hul h256
      go_upto_if 63 with fail
      go_cut [13] from 41 to 122 (fun v13 wx => v13 = .int .i64 (if cmd = 3 then 1 else 0) ∧ wx = wr)
      case first =>
        by_cases h3 : cmd = 3
        · subst h3
          go_wp2_with fail
          go_meet
          exact ⟨rfl, rfl⟩
        · go_wp2_with fail
          go_meet
          exact ⟨by rw [if_neg h3], rfl⟩
      case rest =>
        obtain ⟨rfl, hwc⟩ := hcut
        replace hwc := hwc.symm
        subst hwc
        go_upto_region 16 with fail
        go_cut [69, 13] from 41 to 122 (fun v69 v13 wx => v69 = .bool (decide (cmd = 4 ∨ cmd = 5)) ∧ v13 = .int .i64 (if cmd = 3 then 1 else 0) ∧ wx = wr)
        case first =>
          have hcmd := Dr.cmd_of HINV.out
          rcases hcmd with rfl | rfl | rfl | rfl
          all_goals
            go_wp2_with fail
            go_meet
            exact ⟨rfl, rfl, rfl⟩
        case rest =>
          obtain ⟨rfl, rfl, hwc⟩ := hcut
          replace hwc := hwc.symm
          subst hwc
          go_upto_if 69 with fail
          go_cut [13] from 41 to 122 (fun v13 wx => v13 = .int .i64 (Dr.dirI cmd) ∧ wx = wr)
          case first =>
            have hcmd := Dr.cmd_of HINV.out
            rcases hcmd with rfl | rfl | rfl | rfl
            all_goals
              go_wp2_with fail
              go_meet
              exact ⟨rfl, rfl⟩
          case rest =>
          obtain ⟨rfl, hwc⟩ := hcut
          replace hwc := hwc.symm
          subst hwc
          have hdd : Dr.dirI cmd = 0 ∨ Dr.dirI cmd = 1 ∨ Dr.dirI cmd = 2 := by rcases Dr.cmd_of HINV.out with rfl | rfl | rfl | rfl <;> simp [Dr.dirI]
          have hES := Lib.hid (fun pl r2 b hr2 hp1 hp2 => Dr.ends_step (dw := dw) (pl := pl) (r2 := r2) HINV.out hT hH hr2 hp1 hp2 b)
          generalize Dr.dirI cmd = dir at *
          go_upto_if 72 with fail
          go_cut [9] from 41 to 122 (fun v9 wx => v9 = .int .i64 (Dr.rowI dir last row) ∧ wx = wr)
          case first =>
            by_cases hdl : dir = last
            · subst hdl
              go_wp2_with fail
              go_meet
              exact ⟨by unfold Dr.rowI; rw [if_pos rfl], rfl⟩
            · go_wp2_with fail
              go_meet
              exact ⟨by unfold Dr.rowI; rw [if_neg hdl], rfl⟩
          case rest =>
            obtain ⟨rfl, hwc⟩ := hcut
            replace hwc := hwc.symm
            subst hwc
            have hr1 : 0 ≤ Dr.rowI dir last row ∧ Dr.rowI dir last row < i := by unfold Dr.rowI; split <;> omega
            obtain ⟨r1, hr1e⟩ : ∃ r1, Dr.rowI dir last row = r1 := ⟨_, rfl⟩
            rw [hr1e] at hr1 hES ⊢
            have HR1 := Lib.hid hr1e
            clear hr1e
            go_upto_if 75 with fail
            go_cut [8, 9] from 41 to 122 (fun v8 v9 wx => ∃ pl : Int, v8 = .int .i64 pl ∧ v9 = .int .i64 (Dr.row2I dir r1) ∧ (pl = 0 ∨ pl = 1 ∨ pl = 2) ∧ (dir ≠ 0 → pl ≠ dir → Dr.row2I dir r1 < TT) ∧ Bx w [(gs, .cells #[.int .i64 s.st, .int .i64 s.ti, .int .i64 s.si, .bool s.nu, .int .i64 s.cy] 25 (0, 0)), (w.heap.size, .cells #[.int .u8 x, .int .u8 y, .int .u8 z] 37 (0, 0)), (w.heap.size + 1, .cells #[.int .i64 0, .int .i64 0, .int .i64 0, .int .i64 0, .int .i64 0, .int .i64 TT, .int .i64 dw, .int .i64 H, .int .i64 0] 23 (0, 0))] wx)
            case first =>
              have q1 : w.heap.size + 1 < wr.heap.size := (Array.getElem?_eq_some_iff.1 HBR.out.r2).1
              have hpl := HINV.out.pl
              rcases hdd with rfl | hdd
              · go_wp2_with fail
                go_meet
                exact ⟨place, rfl, by unfold Dr.row2I; rw [if_pos rfl], hpl, fun h => absurd rfl h, HBR.out⟩
              · have hd0 : ¬ dir = 0 := by omega
                have HD := Lib.hid hdd
                clear hES HINV HR1
                rcases hdd with rfl | rfl
                · rcases hpl with rfl | rfl | rfl
                  · by_cases hTr : TT ≤ r1 + 1
                    · go_wp2_with (with_reducible show wpList _ _ _ (Oper.mk _ (.buildSlice _ _ _) _ _ _ _ :: _) _ _; refine wpList_ints3 rfl rfl ?_)
                      go_meet
                      exact ⟨1, rfl, by unfold Dr.row2I; rw [if_neg (by omega)], by omega, fun _ h => absurd rfl h, HBR.out.next (by go_grown)⟩
                    · have hTr2 : r1 + 1 < TT := by omega
                      by_cases hn4 : (n : Int) % 4 = 0
                      · go_wp2_with (with_reducible show wpList _ _ _ (Oper.mk _ (.buildSlice _ _ _) _ _ _ _ :: _) _ _; refine wpList_ints3 rfl rfl ?_)
                        go_meet
                        exact ⟨1, rfl, by unfold Dr.row2I; rw [if_neg (by omega)], by omega, fun _ h => absurd rfl h, HBR.out.next (by go_grown)⟩
                      · go_wp2_with (with_reducible show wpList _ _ _ (Oper.mk _ (.buildSlice _ _ _) _ _ _ _ :: _) _ _; refine wpList_ints3 rfl rfl ?_)
                        go_meet
                        exact ⟨0, rfl, by unfold Dr.row2I; rw [if_neg (by omega)], by omega, fun _ _ => by unfold Dr.row2I; rw [if_neg (by omega)]; exact hTr2, HBR.out.next (by go_grown)⟩
                  · go_wp2_with (with_reducible show wpList _ _ _ (Oper.mk _ (.buildSlice _ _ _) _ _ _ _ :: _) _ _; refine wpList_ints3 rfl rfl ?_)
                    go_meet
                    exact ⟨1, rfl, by unfold Dr.row2I; rw [if_neg (by omega)], by omega, fun _ h => absurd rfl h, HBR.out.next (by go_grown)⟩
                  · by_cases hTr : TT ≤ r1 + 1
                    · go_wp2_with (with_reducible show wpList _ _ _ (Oper.mk _ (.buildSlice _ _ _) _ _ _ _ :: _) _ _; refine wpList_ints3 rfl rfl ?_)
                      go_meet
                      exact ⟨1, rfl, by unfold Dr.row2I; rw [if_neg (by omega)], by omega, fun _ h => absurd rfl h, HBR.out.next (by go_grown)⟩
                    · have hTr2 : r1 + 1 < TT := by omega
                      by_cases hn4 : (n : Int) % 4 = 0
                      · go_wp2_with (with_reducible show wpList _ _ _ (Oper.mk _ (.buildSlice _ _ _) _ _ _ _ :: _) _ _; refine wpList_ints3 rfl rfl ?_)
                        go_meet
                        exact ⟨1, rfl, by unfold Dr.row2I; rw [if_neg (by omega)], by omega, fun _ h => absurd rfl h, HBR.out.next (by go_grown)⟩
                      · go_wp2_with (with_reducible show wpList _ _ _ (Oper.mk _ (.buildSlice _ _ _) _ _ _ _ :: _) _ _; refine wpList_ints3 rfl rfl ?_)
                        go_meet
                        exact ⟨0, rfl, by unfold Dr.row2I; rw [if_neg (by omega)], by omega, fun _ _ => by unfold Dr.row2I; rw [if_neg (by omega)]; exact hTr2, HBR.out.next (by go_grown)⟩
                · rcases hpl with rfl | rfl | rfl
                  · by_cases hTr : TT ≤ r1 + 1
                    · go_wp2_with (with_reducible show wpList _ _ _ (Oper.mk _ (.buildSlice _ _ _) _ _ _ _ :: _) _ _; refine wpList_ints3 rfl rfl ?_)
                      go_meet
                      exact ⟨2, rfl, by unfold Dr.row2I; rw [if_neg (by omega)], by omega, fun _ h => absurd rfl h, HBR.out.next (by go_grown)⟩
                    · have hTr2 : r1 + 1 < TT := by omega
                      by_cases hn4 : (n : Int) % 4 = 0
                      · go_wp2_with (with_reducible show wpList _ _ _ (Oper.mk _ (.buildSlice _ _ _) _ _ _ _ :: _) _ _; refine wpList_ints3 rfl rfl ?_)
                        go_meet
                        exact ⟨2, rfl, by unfold Dr.row2I; rw [if_neg (by omega)], by omega, fun _ h => absurd rfl h, HBR.out.next (by go_grown)⟩
                      · go_wp2_with (with_reducible show wpList _ _ _ (Oper.mk _ (.buildSlice _ _ _) _ _ _ _ :: _) _ _; refine wpList_ints3 rfl rfl ?_)
                        go_meet
                        exact ⟨0, rfl, by unfold Dr.row2I; rw [if_neg (by omega)], by omega, fun _ _ => by unfold Dr.row2I; rw [if_neg (by omega)]; exact hTr2, HBR.out.next (by go_grown)⟩
                  · by_cases hTr : TT ≤ r1 + 1
                    · go_wp2_with (with_reducible show wpList _ _ _ (Oper.mk _ (.buildSlice _ _ _) _ _ _ _ :: _) _ _; refine wpList_ints3 rfl rfl ?_)
                      go_meet
                      exact ⟨2, rfl, by unfold Dr.row2I; rw [if_neg (by omega)], by omega, fun _ h => absurd rfl h, HBR.out.next (by go_grown)⟩
                    · have hTr2 : r1 + 1 < TT := by omega
                      by_cases hn4 : (n : Int) % 4 = 0
                      · go_wp2_with (with_reducible show wpList _ _ _ (Oper.mk _ (.buildSlice _ _ _) _ _ _ _ :: _) _ _; refine wpList_ints3 rfl rfl ?_)
                        go_meet
                        exact ⟨2, rfl, by unfold Dr.row2I; rw [if_neg (by omega)], by omega, fun _ h => absurd rfl h, HBR.out.next (by go_grown)⟩
                      · go_wp2_with (with_reducible show wpList _ _ _ (Oper.mk _ (.buildSlice _ _ _) _ _ _ _ :: _) _ _; refine wpList_ints3 rfl rfl ?_)
                        go_meet
                        exact ⟨0, rfl, by unfold Dr.row2I; rw [if_neg (by omega)], by omega, fun _ _ => by unfold Dr.row2I; rw [if_neg (by omega)]; exact hTr2, HBR.out.next (by go_grown)⟩
                  · go_wp2_with (with_reducible show wpList _ _ _ (Oper.mk _ (.buildSlice _ _ _) _ _ _ _ :: _) _ _; refine wpList_ints3 rfl rfl ?_)
                    go_meet
                    exact ⟨2, rfl, by unfold Dr.row2I; rw [if_neg (by omega)], by omega, fun _ h => absurd rfl h, HBR.out.next (by go_grown)⟩
            case rest =>
              obtain ⟨pl, rfl, rfl, hp1, hp2, hbx⟩ := hcut
              obtain ⟨bb, hbb⟩ : ∃ bb, ((n : Int) % 3 == 1) = bb := ⟨_, rfl⟩
              have hS := hES.out pl (Dr.row2I dir r1) bb rfl hp1 hp2
              obtain ⟨r2, hr2⟩ : ∃ r2, Dr.row2I dir r1 = r2 := ⟨_, rfl⟩
              rw [hr2] at hS ⊢
              have hr2b : 0 ≤ r2 ∧ r2 ≤ i := by rw [← hr2]; unfold Dr.row2I; split <;> omega
              clear hr2 hES HR1 HINV
              obtain ⟨s1, s2, s3, s4, s5⟩ := s
              obtain ⟨X, hX⟩ : ∃ X, Dr.stepF dw H ⟨s1, s2, s3, s4, s5⟩ pl bb false = X := ⟨_, rfl⟩
              rw [hX] at hS
              obtain ⟨⟨a, b, c, d, e⟩, m⟩ := X
              have FS := Lib.hid (fun wx => step_to 0 0 0 0 0 TT dw H 0 s1 s2 s3 s4 s5 pl bb false a b c d e m wx hX)
              have hlt := hS.2.1
              simp only at hlt
              have FL := Lib.hid (fun wx => late_any 0 0 0 0 0 TT dw H 0 a b c d e wx)
              rw [hlt] at FL
              have HS := Lib.hid hS
              clear hS hX hlt HBR
              simp only at hbx
              have HBC := Lib.hid hbx
              clear hbx
              clear c0_0 c0_1 c0_2 c0_3 c0_4 c1_0 c1_1 c1_2 c2_0 c2_1 c2_2 c2_3 c2_4 c2_5 c2_6 c2_7 c2_8
              have hgw : w.heap.size ≤ gs := by omega
              have c0_0 : wc.cell? ⟨gs, 0, none⟩ = some (.int .i64 s1) := cell_of_row _ _ _ _ _ (0, 0) HBC.out.r0
              have c0_1 : wc.cell? ⟨gs, 1, none⟩ = some (.int .i64 s2) := cell_of_row _ _ _ _ _ (0, 0) HBC.out.r0
              have c0_2 : wc.cell? ⟨gs, 2, none⟩ = some (.int .i64 s3) := cell_of_row _ _ _ _ _ (0, 0) HBC.out.r0
              have c0_3 : wc.cell? ⟨gs, 3, none⟩ = some (.bool s4) := cell_of_row _ _ _ _ _ (0, 0) HBC.out.r0
              have c0_4 : wc.cell? ⟨gs, 4, none⟩ = some (.int .i64 s5) := cell_of_row _ _ _ _ _ (0, 0) HBC.out.r0
              have c2_0 : wc.cell? ⟨w.heap.size + 1, 0, none⟩ = some (.int .i64 0) := cell_of_row _ _ _ _ _ (0, 0) HBC.out.r2
              have c2_1 : wc.cell? ⟨w.heap.size + 1, 1, none⟩ = some (.int .i64 0) := cell_of_row _ _ _ _ _ (0, 0) HBC.out.r2
              have c2_2 : wc.cell? ⟨w.heap.size + 1, 2, none⟩ = some (.int .i64 0) := cell_of_row _ _ _ _ _ (0, 0) HBC.out.r2
              have c2_3 : wc.cell? ⟨w.heap.size + 1, 3, none⟩ = some (.int .i64 0) := cell_of_row _ _ _ _ _ (0, 0) HBC.out.r2
              have c2_4 : wc.cell? ⟨w.heap.size + 1, 4, none⟩ = some (.int .i64 0) := cell_of_row _ _ _ _ _ (0, 0) HBC.out.r2
              have c2_5 : wc.cell? ⟨w.heap.size + 1, 5, none⟩ = some (.int .i64 TT) := cell_of_row _ _ _ _ _ (0, 0) HBC.out.r2
              have c2_6 : wc.cell? ⟨w.heap.size + 1, 6, none⟩ = some (.int .i64 dw) := cell_of_row _ _ _ _ _ (0, 0) HBC.out.r2
              have c2_7 : wc.cell? ⟨w.heap.size + 1, 7, none⟩ = some (.int .i64 H) := cell_of_row _ _ _ _ _ (0, 0) HBC.out.r2
              have c2_8 : wc.cell? ⟨w.heap.size + 1, 8, none⟩ = some (.int .i64 0) := cell_of_row _ _ _ _ _ (0, 0) HBC.out.r2
              go_wp2_with fail
              refine (FS.out _).mono ?_
              rintro e w5 ⟨rfl, hb5⟩
              have HB5 := Lib.hid (HBC.out.next hb5)
              clear c0_0 c0_1 c0_2 c0_3 c0_4 c2_0 c2_1 c2_2 c2_3 c2_4 c2_5 c2_6 c2_7 c2_8 hb5 HBC
              have c0_0 : w5.cell? ⟨gs, 0, none⟩ = some (.int .i64 s1) := cell_of_row _ _ _ _ _ (0, 0) HB5.out.r0
              have c0_1 : w5.cell? ⟨gs, 1, none⟩ = some (.int .i64 s2) := cell_of_row _ _ _ _ _ (0, 0) HB5.out.r0
              have c0_2 : w5.cell? ⟨gs, 2, none⟩ = some (.int .i64 s3) := cell_of_row _ _ _ _ _ (0, 0) HB5.out.r0
              have c0_3 : w5.cell? ⟨gs, 3, none⟩ = some (.bool s4) := cell_of_row _ _ _ _ _ (0, 0) HB5.out.r0
              have c0_4 : w5.cell? ⟨gs, 4, none⟩ = some (.int .i64 s5) := cell_of_row _ _ _ _ _ (0, 0) HB5.out.r0
              have c2_0 : w5.cell? ⟨w.heap.size + 1, 0, none⟩ = some (.int .i64 0) := cell_of_row _ _ _ _ _ (0, 0) HB5.out.r2
              have c2_1 : w5.cell? ⟨w.heap.size + 1, 1, none⟩ = some (.int .i64 0) := cell_of_row _ _ _ _ _ (0, 0) HB5.out.r2
              have c2_2 : w5.cell? ⟨w.heap.size + 1, 2, none⟩ = some (.int .i64 0) := cell_of_row _ _ _ _ _ (0, 0) HB5.out.r2
              have c2_3 : w5.cell? ⟨w.heap.size + 1, 3, none⟩ = some (.int .i64 0) := cell_of_row _ _ _ _ _ (0, 0) HB5.out.r2
              have c2_4 : w5.cell? ⟨w.heap.size + 1, 4, none⟩ = some (.int .i64 0) := cell_of_row _ _ _ _ _ (0, 0) HB5.out.r2
              have c2_5 : w5.cell? ⟨w.heap.size + 1, 5, none⟩ = some (.int .i64 TT) := cell_of_row _ _ _ _ _ (0, 0) HB5.out.r2
              have c2_6 : w5.cell? ⟨w.heap.size + 1, 6, none⟩ = some (.int .i64 dw) := cell_of_row _ _ _ _ _ (0, 0) HB5.out.r2
              have c2_7 : w5.cell? ⟨w.heap.size + 1, 7, none⟩ = some (.int .i64 H) := cell_of_row _ _ _ _ _ (0, 0) HB5.out.r2
              have c2_8 : w5.cell? ⟨w.heap.size + 1, 8, none⟩ = some (.int .i64 0) := cell_of_row _ _ _ _ _ (0, 0) HB5.out.r2
              go_wp2_with (with_reducible show wpList _ _ _ (Oper.mk _ (.store 25 _ _) _ _ _ _ :: _) _ _; refine Hid.out ?_)
              refine Lib.hid ?_
              refine wpList_put rfl 25 _ _ rfl (gs) #[.int .i64 a, .int .i64 b, .int .i64 c, .bool d, .int .i64 e] _ 25 rfl rfl HB5.out.r0 (by kernel_rfl) rfl (by kernel_rfl) ?_
              intro w6 hr6 hg6
              have HB6 : Hid (Bx w [(gs, .cells #[.int .i64 a, .int .i64 b, .int .i64 c, .bool d, .int .i64 e] 25 (0, 0)), (w.heap.size, .cells #[.int .u8 x, .int .u8 y, .int .u8 z] 37 (0, 0)), (w.heap.size + 1, .cells #[.int .i64 0, .int .i64 0, .int .i64 0, .int .i64 0, .int .i64 0, .int .i64 TT, .int .i64 dw, .int .i64 H, .int .i64 0] 23 (0, 0))] w6) := Lib.hid (HB5.out.put (by omega) hg6.out hr6.out (by simp only [List.mem_cons, List.not_mem_nil, or_false]; rintro p (rfl | rfl | rfl) <;> simp <;> omega))
              clear c0_0 c0_1 c0_2 c0_3 c0_4 c2_0 c2_1 c2_2 c2_3 c2_4 c2_5 c2_6 c2_7 c2_8 hr6 hg6 HB5
              have c0_0 : w6.cell? ⟨gs, 0, none⟩ = some (.int .i64 a) := cell_of_row _ _ _ _ _ (0, 0) HB6.out.r0
              have c0_1 : w6.cell? ⟨gs, 1, none⟩ = some (.int .i64 b) := cell_of_row _ _ _ _ _ (0, 0) HB6.out.r0
              have c0_2 : w6.cell? ⟨gs, 2, none⟩ = some (.int .i64 c) := cell_of_row _ _ _ _ _ (0, 0) HB6.out.r0
              have c0_3 : w6.cell? ⟨gs, 3, none⟩ = some (.bool d) := cell_of_row _ _ _ _ _ (0, 0) HB6.out.r0
              have c0_4 : w6.cell? ⟨gs, 4, none⟩ = some (.int .i64 e) := cell_of_row _ _ _ _ _ (0, 0) HB6.out.r0
              have c2_0 : w6.cell? ⟨w.heap.size + 1, 0, none⟩ = some (.int .i64 0) := cell_of_row _ _ _ _ _ (0, 0) HB6.out.r2
              have c2_1 : w6.cell? ⟨w.heap.size + 1, 1, none⟩ = some (.int .i64 0) := cell_of_row _ _ _ _ _ (0, 0) HB6.out.r2
              have c2_2 : w6.cell? ⟨w.heap.size + 1, 2, none⟩ = some (.int .i64 0) := cell_of_row _ _ _ _ _ (0, 0) HB6.out.r2
              have c2_3 : w6.cell? ⟨w.heap.size + 1, 3, none⟩ = some (.int .i64 0) := cell_of_row _ _ _ _ _ (0, 0) HB6.out.r2
              have c2_4 : w6.cell? ⟨w.heap.size + 1, 4, none⟩ = some (.int .i64 0) := cell_of_row _ _ _ _ _ (0, 0) HB6.out.r2
              have c2_5 : w6.cell? ⟨w.heap.size + 1, 5, none⟩ = some (.int .i64 TT) := cell_of_row _ _ _ _ _ (0, 0) HB6.out.r2
              have c2_6 : w6.cell? ⟨w.heap.size + 1, 6, none⟩ = some (.int .i64 dw) := cell_of_row _ _ _ _ _ (0, 0) HB6.out.r2
              have c2_7 : w6.cell? ⟨w.heap.size + 1, 7, none⟩ = some (.int .i64 H) := cell_of_row _ _ _ _ _ (0, 0) HB6.out.r2
              have c2_8 : w6.cell? ⟨w.heap.size + 1, 8, none⟩ = some (.int .i64 0) := cell_of_row _ _ _ _ _ (0, 0) HB6.out.r2
              go_wp2_with fail
              refine (FL.out _).mono ?_
              rintro e w7 ⟨rfl, hb7⟩
              have HB7 := Lib.hid (HB6.out.next hb7)
              clear c0_0 c0_1 c0_2 c0_3 c0_4 c2_0 c2_1 c2_2 c2_3 c2_4 c2_5 c2_6 c2_7 c2_8 hb7 HB6
              have c0_0 : w7.cell? ⟨gs, 0, none⟩ = some (.int .i64 a) := cell_of_row _ _ _ _ _ (0, 0) HB7.out.r0
              have c0_1 : w7.cell? ⟨gs, 1, none⟩ = some (.int .i64 b) := cell_of_row _ _ _ _ _ (0, 0) HB7.out.r0
              have c0_2 : w7.cell? ⟨gs, 2, none⟩ = some (.int .i64 c) := cell_of_row _ _ _ _ _ (0, 0) HB7.out.r0
              have c0_3 : w7.cell? ⟨gs, 3, none⟩ = some (.bool d) := cell_of_row _ _ _ _ _ (0, 0) HB7.out.r0
              have c0_4 : w7.cell? ⟨gs, 4, none⟩ = some (.int .i64 e) := cell_of_row _ _ _ _ _ (0, 0) HB7.out.r0
              have c2_0 : w7.cell? ⟨w.heap.size + 1, 0, none⟩ = some (.int .i64 0) := cell_of_row _ _ _ _ _ (0, 0) HB7.out.r2
              have c2_1 : w7.cell? ⟨w.heap.size + 1, 1, none⟩ = some (.int .i64 0) := cell_of_row _ _ _ _ _ (0, 0) HB7.out.r2
              have c2_2 : w7.cell? ⟨w.heap.size + 1, 2, none⟩ = some (.int .i64 0) := cell_of_row _ _ _ _ _ (0, 0) HB7.out.r2
              have c2_3 : w7.cell? ⟨w.heap.size + 1, 3, none⟩ = some (.int .i64 0) := cell_of_row _ _ _ _ _ (0, 0) HB7.out.r2
              have c2_4 : w7.cell? ⟨w.heap.size + 1, 4, none⟩ = some (.int .i64 0) := cell_of_row _ _ _ _ _ (0, 0) HB7.out.r2
              have c2_5 : w7.cell? ⟨w.heap.size + 1, 5, none⟩ = some (.int .i64 TT) := cell_of_row _ _ _ _ _ (0, 0) HB7.out.r2
              have c2_6 : w7.cell? ⟨w.heap.size + 1, 6, none⟩ = some (.int .i64 dw) := cell_of_row _ _ _ _ _ (0, 0) HB7.out.r2
              have c2_7 : w7.cell? ⟨w.heap.size + 1, 7, none⟩ = some (.int .i64 H) := cell_of_row _ _ _ _ _ (0, 0) HB7.out.r2
              have c2_8 : w7.cell? ⟨w.heap.size + 1, 8, none⟩ = some (.int .i64 0) := cell_of_row _ _ _ _ _ (0, 0) HB7.out.r2
              by_cases ha : a = 0
              · obtain ⟨hz1, hz2⟩ := HS.out.1 ha
                simp only [Dr.zero, Dr.mk.injEq] at hz1 hz2
                obtain ⟨rfl, rfl, rfl, rfl, rfl⟩ := hz1
                subst hz2
                have FN := Lib.hid (fun wx => sane12_any wx)
                have eqz := eqlDr 0 0 0 false 0 0 0 0 false 0
                rw [show Dr.same ⟨0, 0, 0, false, 0⟩ ⟨0, 0, 0, false, 0⟩ = true by decide] at eqz
                clear ha
                go_wp2_with fail
                refine (FN.out _).mono ?_
                rintro e w8 ⟨rfl, hb8⟩
                have HB8 := Lib.hid (HB7.out.next hb8)
                clear c0_0 c0_1 c0_2 c0_3 c0_4 c2_0 c2_1 c2_2 c2_3 c2_4 c2_5 c2_6 c2_7 c2_8 hb8 HB7
                go_wp2_with fail
                go_ret
                exact ⟨rfl, HB8.out.below⟩
              · have hnew := HS.out.2.2 ha
                have HNW := Lib.hid hnew
                clear hnew
                go_wp2_with fail
                go_roundw
                case rel => exact ⟨⟨a, b, c, d, e⟩, m, pl, r2, dir, i + 1, rfl, rfl, rfl, rfl, by go_num, by rw [Int.natCast_add]; exact HNW.out, HB7.out⟩
                case measure => simp [intOf]; omega
set_option maxRecDepth 100000 in
theorem lawDoorEnds_lifted (os : Os) (started : os.Started) (H : Type) (enc : TypeId × Value → H) :
    ReturnsInHanded {} Try.checked os 5 .any (Rows.doorEndsSpec.pre6 enc Try.prog Try.f5 Rows.doorEndsRow.domain false) (Rows.doorEndsSpec.post enc Try.prog Try.f5 false true false false) := by
  refine returnsInHanded_of_change (C := Try.checked) own started (by kernel_rfl) Try.func5
    (ChangeSpec.witness6 (enc := enc) (C := Try.checked) false ⟨#[], #[.agg #[.int .u8 0, .int .u8 0, .int .u8 0], .slice none 0 0], []⟩ 8 (by kernel_rfl) (by kernel_rfl) (by kernel_rfl) (by kernel_rfl)) ?_
  intro W base args ds gs before hval0 hW hcnd _
  have hval : ∀ (j : Nat) t v, Try.f5.params[j]? = some t → args[j]? = some v → Value.okWide Try.prog W .any base t v := hval0
  have hW' := hW
  obtain ⟨p, q, hA0, hV, rfl, hfz, hnd⟩ := hW
  have hA : DataW.TrodAll enc Try.prog W 0 (fun _ => true) true Try.f5.params.toList args.toList ds p := hA0
  rw [Try.params5] at hA hval
  obtain ⟨v0, vs0, d0, ds0, p0, q0, hargs, rfl, rfl, h0, r0⟩ := trodAll_cons hA
  obtain ⟨v1, vs1, d1, ds1, p1, q1, rfl, rfl, rfl, h1, r1⟩ := trodAll_cons r0
  obtain ⟨rfl, rfl, rfl⟩ := trodAll_nil r1
  obtain rfl : args = #[v0, v1] := by cases args; simp_all
  obtain ⟨rfl, rfl⟩ := trodVars_none hV
  have k0 := h0
  have lt0 : ∀ x ∈ p0, x.block < W.heap.size := by obtain ⟨m, hm⟩ := k0; exact DataW.trod_lt m _ _ _ hm
  obtain ⟨x0, y0, z0, rfl, g0, m0, n0⟩ := open_au8_3 (hval 0 37 v0 rfl rfl) h0
  have k1 := h1
  have lt1 : ∀ x ∈ p1, x.block < W.heap.size := by obtain ⟨m, hm⟩ := k1; exact DataW.trod_lt m _ _ _ hm
  obtain ⟨a1, l1, c1, rfl⟩ := okWide_slice Try.underlying38 (hval 1 38 v1 rfl rfl)
  obtain ⟨fuel1, hf1⟩ := h1
  obtain ⟨x1, g1, n1, m1⟩ := open_u8s hf1
  clear hA0 hval0
  refine (lawDoorEnds_walk x0 y0 z0 _ x1 W g0 m0 n0 g1 n1 m1).mono fun e W' ⟨he, bel⟩ => ?_
  subst he
  exact ⟨_, rfl, _, _, _, [], _, [], hW', trodAll_mk1 (shut_bool Try.underlying4 _), (trodAll_cons_mk (Below.trod laidOut (by kernel_rfl) (of_decide_eq_true (by kernel_rfl)) k0 bel lt0) (trodAll_cons_mk (Below.trod laidOut (by kernel_rfl) (of_decide_eq_true (by kernel_rfl)) k1 bel lt1) trodAll_mk0)), rfl, bel.frame _, fun h => by cases h⟩

theorem lawDoorEnds_over : Rows.doorEndsRow.holds Try.pinned (OpenSpec.ofChange Rows.doorEndsSpec) :=
  OpenClaim.holds_of_wide 5 Try.f5 rfl rfl rfl rfl rfl rfl rfl ⟨rfl, rfl, rfl, rfl, rfl⟩ rfl rfl rfl rfl rfl (by kernel_rfl) Try.func5 (by kernel_rfl)
    (of_decide_eq_true (by kernel_rfl)) (by unfold Func.isWrapper; first | (rw [if_pos (by decide +kernel)]; kernel_rfl) | (rw [if_neg (by decide +kernel)]; exact ⟨rfl, rfl⟩))
    (fun os started H enc _ => lawDoorEnds_lifted os started H enc)

theorem doorEnds_holds : Rows.DoorEndsSaid := lawDoorEnds_over
#print axioms doorEnds_holds
end Go.Proofs.Ythniolaeicmjlaa
