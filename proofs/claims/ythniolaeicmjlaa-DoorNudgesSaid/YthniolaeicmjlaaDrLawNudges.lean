/- The law DoorNudges: a blocked door is reopened, but nudged from Hold ticks behind the first opening on, and it is not closed without nudging as long as something stands in it. No condition. -/
import Derived.Test.YthniolaeicmjlaaDrSane
import Derived.Test.YthniolaeicmjlaaDrNudM
import Derived.Test.YthniolaeicmjlaaDrOpen
import Derived.Test.YthniolaeicmjlaaDecl1
import Derived.Deep.CutRange
namespace Go.Proofs.Ythniolaeicmjlaa
open Go.RowKit Go.ChangeShapes Go.WideShapes Go.ChangeAt Ghost

set_option maxRecDepth 100000 in
set_option maxHeartbeats 8000000 in
theorem lawDoorNudges_walk (x0 y0 : Int) (v : Value) (l : List Tk) (w : World) (hb0 : (Lit.int .u8 x0).wf = true ∧ (Lit.int .u8 y0).wf = true) (hv : TV w v l) (_hlen : l.length ≤ maxLen) :
    Calls Try.prog 6 #[.agg #[.int .u8 x0, .int .u8 y0], v] w fun e w' => e = .returned (.bool true) ∧ Below w.heap.size w w' := by
  obtain ⟨x, rfl, hx⟩ := u8_nat hb0.1
  obtain ⟨y, rfl, hy⟩ := u8_nat hb0.2
  clear hb0
  obtain ⟨VA, vcap, rfl, hVA⟩ := hv
  have HVA := Lib.hid hVA
  have FN := Lib.hid (fun wx => sane12_any wx)
  clear hVA
  by_cases hlen : 300 < l.length
  · have hli : (300 : Int) < (l.length : Int) := by omega
    go_enter Try.func6, Try.ntmps6
    go_wp2_with fail
    refine (FN.out _).mono ?_
    rintro e w1 ⟨rfl, hb⟩
    go_wp2_with fail
    go_ret
    exact ⟨rfl, ((bxs1 w _).next hb).below⟩
  have hli : ¬ (300 : Int) < (l.length : Int) := by omega
  obtain ⟨dw, hDe, hD⟩ : ∃ dw : Int, (1 : Int) + (x : Int) % 6 = dw ∧ (1 ≤ dw ∧ dw ≤ 8) := ⟨_, rfl, by omega⟩
  obtain ⟨H, hHe, hH⟩ : ∃ H : Int, dw + (y : Int) % 40 = H ∧ (1 ≤ H ∧ H ≤ 50) := ⟨_, rfl, by omega⟩
  have F0 := Lib.hid (fun wx => step_to 0 0 0 0 0 3 dw H 0 0 0 0 false 0 2 false true 1 0 0 false 0 3 wx (by rw [Dr.stepF_of (by decide)]; rfl))
  have HB0 := Lib.hid (bxs2 w (.cells #[.int .u8 x, .int .u8 y] 41) (.cells #[.int .i64 0, .int .i64 0, .int .i64 0, .int .i64 0, .int .i64 0, .int .i64 0, .int .i64 0, .int .i64 0, .int .i64 0] 23))
  go_enter Try.func6, Try.ntmps6
  go_wp2_with (with_reducible show wpList _ _ _ (Oper.mk _ (.store 23 _ _) _ _ _ _ :: _) _ _; refine Hid.out ?_)
  refine Lib.hid ?_
  refine wpList_put rfl 23 _ _ rfl (w.heap.size + 1) #[.int .i64 0, .int .i64 0, .int .i64 0, .int .i64 0, .int .i64 0, .int .i64 3, .int .i64 dw, .int .i64 0, .int .i64 0] _ 23 rfl rfl HB0.out.r1 (by kernel_rfl) rfl (by kernel_rfl) ?_
  intro w1 hr1 hg1
  have HB1 : Hid (Bx w [(w.heap.size, .cells #[.int .u8 x, .int .u8 y] 41 (0, 0)), (w.heap.size + 1, .cells #[.int .i64 0, .int .i64 0, .int .i64 0, .int .i64 0, .int .i64 0, .int .i64 3, .int .i64 dw, .int .i64 0, .int .i64 0] 23 (0, 0))] w1) := Lib.hid (HB0.out.put (by omega) hg1.out hr1.out (by simp only [List.mem_cons, List.not_mem_nil, or_false]; rintro p (rfl | rfl) <;> simp <;> omega))
  clear hr1 hg1 HB0
  have c0_0 : w1.cell? ⟨w.heap.size, 0, none⟩ = some (.int .u8 x) := cell_of_row _ _ _ _ _ (0, 0) HB1.out.r0
  have c0_1 : w1.cell? ⟨w.heap.size, 1, none⟩ = some (.int .u8 y) := cell_of_row _ _ _ _ _ (0, 0) HB1.out.r0
  have c1_0 : w1.cell? ⟨w.heap.size + 1, 0, none⟩ = some (.int .i64 0) := cell_of_row _ _ _ _ _ (0, 0) HB1.out.r1
  have c1_1 : w1.cell? ⟨w.heap.size + 1, 1, none⟩ = some (.int .i64 0) := cell_of_row _ _ _ _ _ (0, 0) HB1.out.r1
  have c1_2 : w1.cell? ⟨w.heap.size + 1, 2, none⟩ = some (.int .i64 0) := cell_of_row _ _ _ _ _ (0, 0) HB1.out.r1
  have c1_3 : w1.cell? ⟨w.heap.size + 1, 3, none⟩ = some (.int .i64 0) := cell_of_row _ _ _ _ _ (0, 0) HB1.out.r1
  have c1_4 : w1.cell? ⟨w.heap.size + 1, 4, none⟩ = some (.int .i64 0) := cell_of_row _ _ _ _ _ (0, 0) HB1.out.r1
  have c1_5 : w1.cell? ⟨w.heap.size + 1, 5, none⟩ = some (.int .i64 3) := cell_of_row _ _ _ _ _ (0, 0) HB1.out.r1
  have c1_6 : w1.cell? ⟨w.heap.size + 1, 6, none⟩ = some (.int .i64 dw) := cell_of_row _ _ _ _ _ (0, 0) HB1.out.r1
  have c1_7 : w1.cell? ⟨w.heap.size + 1, 7, none⟩ = some (.int .i64 0) := cell_of_row _ _ _ _ _ (0, 0) HB1.out.r1
  have c1_8 : w1.cell? ⟨w.heap.size + 1, 8, none⟩ = some (.int .i64 0) := cell_of_row _ _ _ _ _ (0, 0) HB1.out.r1
  go_wp2_with (with_reducible show wpList _ _ _ (Oper.mk _ (.store 3 _ _) _ _ _ _ :: _) _ _; refine Hid.out ?_)
  refine Lib.hid ?_
  refine wpList_putCell rfl 3 _ _ rfl (w.heap.size + 1) 7 (.int .i64 H) _ _ 23 rfl rfl HB1.out.r1 (by kernel_rfl) (by simp) rfl rfl rfl ?_
  intro w2 hr2 hg2
  have HB2 : Hid (Bx w [(w.heap.size, .cells #[.int .u8 x, .int .u8 y] 41 (0, 0)), (w.heap.size + 1, .cells #[.int .i64 0, .int .i64 0, .int .i64 0, .int .i64 0, .int .i64 0, .int .i64 3, .int .i64 dw, .int .i64 H, .int .i64 0] 23 (0, 0))] w2) := Lib.hid (HB1.out.put (by omega) hg2.out hr2.out (by simp only [List.mem_cons, List.not_mem_nil, or_false]; rintro p (rfl | rfl) <;> simp <;> omega))
  clear c0_0 c0_1 c1_0 c1_1 c1_2 c1_3 c1_4 c1_5 c1_6 c1_7 c1_8 hr2 hg2 HB1
  have c0_0 : w2.cell? ⟨w.heap.size, 0, none⟩ = some (.int .u8 x) := cell_of_row _ _ _ _ _ (0, 0) HB2.out.r0
  have c0_1 : w2.cell? ⟨w.heap.size, 1, none⟩ = some (.int .u8 y) := cell_of_row _ _ _ _ _ (0, 0) HB2.out.r0
  have c1_0 : w2.cell? ⟨w.heap.size + 1, 0, none⟩ = some (.int .i64 0) := cell_of_row _ _ _ _ _ (0, 0) HB2.out.r1
  have c1_1 : w2.cell? ⟨w.heap.size + 1, 1, none⟩ = some (.int .i64 0) := cell_of_row _ _ _ _ _ (0, 0) HB2.out.r1
  have c1_2 : w2.cell? ⟨w.heap.size + 1, 2, none⟩ = some (.int .i64 0) := cell_of_row _ _ _ _ _ (0, 0) HB2.out.r1
  have c1_3 : w2.cell? ⟨w.heap.size + 1, 3, none⟩ = some (.int .i64 0) := cell_of_row _ _ _ _ _ (0, 0) HB2.out.r1
  have c1_4 : w2.cell? ⟨w.heap.size + 1, 4, none⟩ = some (.int .i64 0) := cell_of_row _ _ _ _ _ (0, 0) HB2.out.r1
  have c1_5 : w2.cell? ⟨w.heap.size + 1, 5, none⟩ = some (.int .i64 3) := cell_of_row _ _ _ _ _ (0, 0) HB2.out.r1
  have c1_6 : w2.cell? ⟨w.heap.size + 1, 6, none⟩ = some (.int .i64 dw) := cell_of_row _ _ _ _ _ (0, 0) HB2.out.r1
  have c1_7 : w2.cell? ⟨w.heap.size + 1, 7, none⟩ = some (.int .i64 H) := cell_of_row _ _ _ _ _ (0, 0) HB2.out.r1
  have c1_8 : w2.cell? ⟨w.heap.size + 1, 8, none⟩ = some (.int .i64 0) := cell_of_row _ _ _ _ _ (0, 0) HB2.out.r1
  clear hDe hHe hli
  go_wp2_with fail
  refine (F0.out _).mono ?_
  rintro e w3 ⟨rfl, hb3⟩
  have HB3 := Lib.hid (HB2.out.next hb3)
  clear c0_0 c0_1 c1_0 c1_1 c1_2 c1_3 c1_4 c1_5 c1_6 c1_7 c1_8 hb3 HB2
  have c0_0 : w3.cell? ⟨w.heap.size, 0, none⟩ = some (.int .u8 x) := cell_of_row _ _ _ _ _ (0, 0) HB3.out.r0
  have c0_1 : w3.cell? ⟨w.heap.size, 1, none⟩ = some (.int .u8 y) := cell_of_row _ _ _ _ _ (0, 0) HB3.out.r0
  have c1_0 : w3.cell? ⟨w.heap.size + 1, 0, none⟩ = some (.int .i64 0) := cell_of_row _ _ _ _ _ (0, 0) HB3.out.r1
  have c1_1 : w3.cell? ⟨w.heap.size + 1, 1, none⟩ = some (.int .i64 0) := cell_of_row _ _ _ _ _ (0, 0) HB3.out.r1
  have c1_2 : w3.cell? ⟨w.heap.size + 1, 2, none⟩ = some (.int .i64 0) := cell_of_row _ _ _ _ _ (0, 0) HB3.out.r1
  have c1_3 : w3.cell? ⟨w.heap.size + 1, 3, none⟩ = some (.int .i64 0) := cell_of_row _ _ _ _ _ (0, 0) HB3.out.r1
  have c1_4 : w3.cell? ⟨w.heap.size + 1, 4, none⟩ = some (.int .i64 0) := cell_of_row _ _ _ _ _ (0, 0) HB3.out.r1
  have c1_5 : w3.cell? ⟨w.heap.size + 1, 5, none⟩ = some (.int .i64 3) := cell_of_row _ _ _ _ _ (0, 0) HB3.out.r1
  have c1_6 : w3.cell? ⟨w.heap.size + 1, 6, none⟩ = some (.int .i64 dw) := cell_of_row _ _ _ _ _ (0, 0) HB3.out.r1
  have c1_7 : w3.cell? ⟨w.heap.size + 1, 7, none⟩ = some (.int .i64 H) := cell_of_row _ _ _ _ _ (0, 0) HB3.out.r1
  have c1_8 : w3.cell? ⟨w.heap.size + 1, 8, none⟩ = some (.int .i64 0) := cell_of_row _ _ _ _ _ (0, 0) HB3.out.r1
  go_wp2_with (with_reducible show wpList _ _ _ (Oper.mk _ (.store 25 _ _) _ _ _ _ :: _) _ _; refine Hid.out ?_)
  refine Lib.hid ?_
  have l4_0 : w.heap.size < w3.heap.size := (Array.getElem?_eq_some_iff.1 HB3.out.r0).1
  have l4_1 : w.heap.size + 1 < w3.heap.size := (Array.getElem?_eq_some_iff.1 HB3.out.r1).1
  have lw4 : w.heap.size ≤ w3.heap.size := HB3.out.below.size
  refine wpList_put rfl 25 _ _ rfl w3.heap.size #[.int .i64 1, .int .i64 0, .int .i64 0, .bool false, .int .i64 0] _ 25 rfl rfl (heap_alloc_new w3 _) (by kernel_rfl) rfl (by kernel_rfl) ?_
  intro w4 hr4 hg4
  have HB4 : Hid (Bx w [(w3.heap.size, .cells #[.int .i64 1, .int .i64 0, .int .i64 0, .bool false, .int .i64 0] 25 (0, 0)), (w.heap.size, .cells #[.int .u8 x, .int .u8 y] 41 (0, 0)), (w.heap.size + 1, .cells #[.int .i64 0, .int .i64 0, .int .i64 0, .int .i64 0, .int .i64 0, .int .i64 3, .int .i64 dw, .int .i64 H, .int .i64 0] 23 (0, 0))] w4) := Lib.hid ((HB3.out.make (heap_alloc_new w3 (.cells #[.int .i64 0, .int .i64 0, .int .i64 0, .bool false, .int .i64 0] 25)) ((Below.refl w3.heap.size w3).alloc (Nat.le_refl _) _)).put HB3.out.below.size hg4.out hr4.out (by simp only [List.mem_cons, List.not_mem_nil, or_false]; rintro p (rfl | rfl | rfl) <;> simp <;> omega))
  clear c0_0 c0_1 c1_0 c1_1 c1_2 c1_3 c1_4 c1_5 c1_6 c1_7 c1_8 hr4 hg4 HB3
  generalize w3.heap.size = gs at *
  have c0_0 : w4.cell? ⟨gs, 0, none⟩ = some (.int .i64 1) := cell_of_row _ _ _ _ _ (0, 0) HB4.out.r0
  have c0_1 : w4.cell? ⟨gs, 1, none⟩ = some (.int .i64 0) := cell_of_row _ _ _ _ _ (0, 0) HB4.out.r0
  have c0_2 : w4.cell? ⟨gs, 2, none⟩ = some (.int .i64 0) := cell_of_row _ _ _ _ _ (0, 0) HB4.out.r0
  have c0_3 : w4.cell? ⟨gs, 3, none⟩ = some (.bool false) := cell_of_row _ _ _ _ _ (0, 0) HB4.out.r0
  have c0_4 : w4.cell? ⟨gs, 4, none⟩ = some (.int .i64 0) := cell_of_row _ _ _ _ _ (0, 0) HB4.out.r0
  have c1_0 : w4.cell? ⟨w.heap.size, 0, none⟩ = some (.int .u8 x) := cell_of_row _ _ _ _ _ (0, 0) HB4.out.r1
  have c1_1 : w4.cell? ⟨w.heap.size, 1, none⟩ = some (.int .u8 y) := cell_of_row _ _ _ _ _ (0, 0) HB4.out.r1
  have c2_0 : w4.cell? ⟨w.heap.size + 1, 0, none⟩ = some (.int .i64 0) := cell_of_row _ _ _ _ _ (0, 0) HB4.out.r2
  have c2_1 : w4.cell? ⟨w.heap.size + 1, 1, none⟩ = some (.int .i64 0) := cell_of_row _ _ _ _ _ (0, 0) HB4.out.r2
  have c2_2 : w4.cell? ⟨w.heap.size + 1, 2, none⟩ = some (.int .i64 0) := cell_of_row _ _ _ _ _ (0, 0) HB4.out.r2
  have c2_3 : w4.cell? ⟨w.heap.size + 1, 3, none⟩ = some (.int .i64 0) := cell_of_row _ _ _ _ _ (0, 0) HB4.out.r2
  have c2_4 : w4.cell? ⟨w.heap.size + 1, 4, none⟩ = some (.int .i64 0) := cell_of_row _ _ _ _ _ (0, 0) HB4.out.r2
  have c2_5 : w4.cell? ⟨w.heap.size + 1, 5, none⟩ = some (.int .i64 3) := cell_of_row _ _ _ _ _ (0, 0) HB4.out.r2
  have c2_6 : w4.cell? ⟨w.heap.size + 1, 6, none⟩ = some (.int .i64 dw) := cell_of_row _ _ _ _ _ (0, 0) HB4.out.r2
  have c2_7 : w4.cell? ⟨w.heap.size + 1, 7, none⟩ = some (.int .i64 H) := cell_of_row _ _ _ _ _ (0, 0) HB4.out.r2
  have c2_8 : w4.cell? ⟨w.heap.size + 1, 8, none⟩ = some (.int .i64 0) := cell_of_row _ _ _ _ _ (0, 0) HB4.out.r2
  go_wp2_with fail
  clear c0_0 c0_1 c0_2 c0_3 c0_4 c1_0 c1_1 c2_0 c2_1 c2_2 c2_3 c2_4 c2_5 c2_6 c2_7 c2_8
  have hgs : w.heap.size + 1 < gs := by have := HB4.out.below.size; omega
  go_loopw [8, 9] (fun vs vi wr => ∃ (s : Dr) (i : Nat), vs = .int .i64 s.si ∧ vi = .int .i64 i ∧ i ≤ l.length ∧ Dr.NInv (i : Int) s ∧ Bx w [(gs, .cells #[.int .i64 s.st, .int .i64 s.ti, .int .i64 s.si, .bool s.nu, .int .i64 s.cy] 25 (0, 0)), (w.heap.size, .cells #[.int .u8 x, .int .u8 y] 41 (0, 0)), (w.heap.size + 1, .cells #[.int .i64 0, .int .i64 0, .int .i64 0, .int .i64 0, .int .i64 0, .int .i64 3, .int .i64 dw, .int .i64 H, .int .i64 0] 23 (0, 0))] wr) (fun _ vi _ => l.length - (intOf vi).toNat)
  case atStart => exact ⟨⟨1, 0, 0, false, 0⟩, 0, rfl, rfl, Nat.zero_le _, Dr.nudge_start, HB4.out⟩
  case round =>
    obtain ⟨s, i, rfl, rfl, hil, hInv, hbr⟩ := hrel
    have HINV := Lib.hid hInv
    clear HB4 F0
    have hcc := hInv.cc
    have hee := hInv.ee
    clear hInv
    obtain ⟨s1, s2, s3, s4, s5⟩ := s
    simp only at hbr hcc hee ⊢
    have HBR := Lib.hid hbr
    clear hbr
    by_cases hlt : i < l.length
    · have hlti : (i : Int) < (l.length : Int) := by omega
      have hltB : decide ((i : Int) < (l.length : Int)) = true := decide_eq_true hlti
      obtain ⟨tb, toff, rfl, htb, t0, t1, t2⟩ := HVA.out.at_ hlt
      generalize l[i] = tk at *
      obtain ⟨dd, bl, wt⟩ := tk
      simp only at t0 t1 t2
      have HTK := Lib.hid (fun (wx : World) (h : Below w.heap.size w wx) => (⟨(h.cell (p := ⟨tb, _, none⟩) htb).trans t0, (h.cell (p := ⟨tb, _, none⟩) htb).trans t1⟩ : wx.cell? ⟨tb, toff + i * 3, none⟩ = some (.int .i64 dd) ∧ wx.cell? ⟨tb, toff + i * 3 + 1, none⟩ = some (.bool bl)))
      clear t0 t1 t2 HVA
      have hns := Dr.next_lt (show s3 ≤ 1000 by omega)
      go_upto_if 44 with fail
      go_cut [8] from 37 to 146 (fun v8 wx => v8 = .int .i64 (Dr.next s3) ∧ wx = wr)
      case first =>
        by_cases h0 : s3 = 0
        · subst h0
          go_wp2_with fail
          go_meet
          exact ⟨rfl, rfl⟩
        · have hp : 0 < s3 := by omega
          rw [if_neg h0] at hns
          have hw : IntKind.i64.wrap (s3 + 1) = s3 + 1 := by rw [IntKind.wrap_i64]; omega
          have HNS := Lib.hid hns
          clear hns
          go_wp2_with fail
          go_meet
          exact ⟨by rw [HNS.out], rfl⟩
      case rest =>
        obtain ⟨rfl, hwc⟩ := hcut
        replace hwc := hwc.symm
        subst hwc
        have hNS := Dr.nudge_step (H := H) (dw := dw) (d := dd) HINV.out (by omega) hH.1 bl
        simp only at hNS
        generalize Dr.next s3 = n at *
        obtain ⟨X, hX⟩ : ∃ X, Dr.stepF dw H ⟨s1, s2, s3, s4, s5⟩ dd bl false = X := ⟨_, rfl⟩
        rw [hX] at hNS
        obtain ⟨⟨a, b, c, d, e⟩, m⟩ := X
        simp only at hNS
        have FS := Lib.hid (fun wx => step_to 0 0 0 0 0 3 dw H 0 s1 s2 s3 s4 s5 dd bl false a b c d e m wx hX)
        have HNS := Lib.hid hNS
        clear hNS hX hns HINV
        have c0_0 : wr.cell? ⟨gs, 0, none⟩ = some (.int .i64 s1) := cell_of_row _ _ _ _ _ (0, 0) HBR.out.r0
        have c0_1 : wr.cell? ⟨gs, 1, none⟩ = some (.int .i64 s2) := cell_of_row _ _ _ _ _ (0, 0) HBR.out.r0
        have c0_2 : wr.cell? ⟨gs, 2, none⟩ = some (.int .i64 s3) := cell_of_row _ _ _ _ _ (0, 0) HBR.out.r0
        have c0_3 : wr.cell? ⟨gs, 3, none⟩ = some (.bool s4) := cell_of_row _ _ _ _ _ (0, 0) HBR.out.r0
        have c0_4 : wr.cell? ⟨gs, 4, none⟩ = some (.int .i64 s5) := cell_of_row _ _ _ _ _ (0, 0) HBR.out.r0
        have c2_0 : wr.cell? ⟨w.heap.size + 1, 0, none⟩ = some (.int .i64 0) := cell_of_row _ _ _ _ _ (0, 0) HBR.out.r2
        have c2_1 : wr.cell? ⟨w.heap.size + 1, 1, none⟩ = some (.int .i64 0) := cell_of_row _ _ _ _ _ (0, 0) HBR.out.r2
        have c2_2 : wr.cell? ⟨w.heap.size + 1, 2, none⟩ = some (.int .i64 0) := cell_of_row _ _ _ _ _ (0, 0) HBR.out.r2
        have c2_3 : wr.cell? ⟨w.heap.size + 1, 3, none⟩ = some (.int .i64 0) := cell_of_row _ _ _ _ _ (0, 0) HBR.out.r2
        have c2_4 : wr.cell? ⟨w.heap.size + 1, 4, none⟩ = some (.int .i64 0) := cell_of_row _ _ _ _ _ (0, 0) HBR.out.r2
        have c2_5 : wr.cell? ⟨w.heap.size + 1, 5, none⟩ = some (.int .i64 3) := cell_of_row _ _ _ _ _ (0, 0) HBR.out.r2
        have c2_6 : wr.cell? ⟨w.heap.size + 1, 6, none⟩ = some (.int .i64 dw) := cell_of_row _ _ _ _ _ (0, 0) HBR.out.r2
        have c2_7 : wr.cell? ⟨w.heap.size + 1, 7, none⟩ = some (.int .i64 H) := cell_of_row _ _ _ _ _ (0, 0) HBR.out.r2
        have c2_8 : wr.cell? ⟨w.heap.size + 1, 8, none⟩ = some (.int .i64 0) := cell_of_row _ _ _ _ _ (0, 0) HBR.out.r2
        go_wp2_with fail
        have q0 : gs < wr.heap.size := (Array.getElem?_eq_some_iff.1 HBR.out.r0).1
        have q1 : w.heap.size < wr.heap.size := (Array.getElem?_eq_some_iff.1 HBR.out.r1).1
        have q2 : w.heap.size + 1 < wr.heap.size := (Array.getElem?_eq_some_iff.1 HBR.out.r2).1
        refine Ghost.ghost (fun γ L wx => Decls (wr).heap.size (wr) [(⟨16, 17, 25, #[.int .i64 0, .int .i64 0, .int .i64 0, .bool false, .int .i64 0], #[.int .i64 a, .int .i64 b, .int .i64 c, .bool d, .int .i64 e]⟩ : Decl)] γ L wx) (by kernel_rfl) (by kernel_rfl) (fun γ => Decls.start _ γ (Below.refl _ _).drew (Nat.le_refl _)) ?_
        apply Ghost.walk_const (fun γ => by rfl)
        · intro γ L wx h1 h2 hx K hK
          have HXx := HBR.out.next hx.below
          have z0_0 : wx.cell? ⟨gs, 0, none⟩ = some (.int .i64 s1) := cell_of_row _ _ _ _ _ (0, 0) HXx.r0
          have z0_1 : wx.cell? ⟨gs, 1, none⟩ = some (.int .i64 s2) := cell_of_row _ _ _ _ _ (0, 0) HXx.r0
          have z0_2 : wx.cell? ⟨gs, 2, none⟩ = some (.int .i64 s3) := cell_of_row _ _ _ _ _ (0, 0) HXx.r0
          have z0_3 : wx.cell? ⟨gs, 3, none⟩ = some (.bool s4) := cell_of_row _ _ _ _ _ (0, 0) HXx.r0
          have z0_4 : wx.cell? ⟨gs, 4, none⟩ = some (.int .i64 s5) := cell_of_row _ _ _ _ _ (0, 0) HXx.r0
          have z2_0 : wx.cell? ⟨w.heap.size + 1, 0, none⟩ = some (.int .i64 0) := cell_of_row _ _ _ _ _ (0, 0) HXx.r2
          have z2_1 : wx.cell? ⟨w.heap.size + 1, 1, none⟩ = some (.int .i64 0) := cell_of_row _ _ _ _ _ (0, 0) HXx.r2
          have z2_2 : wx.cell? ⟨w.heap.size + 1, 2, none⟩ = some (.int .i64 0) := cell_of_row _ _ _ _ _ (0, 0) HXx.r2
          have z2_3 : wx.cell? ⟨w.heap.size + 1, 3, none⟩ = some (.int .i64 0) := cell_of_row _ _ _ _ _ (0, 0) HXx.r2
          have z2_4 : wx.cell? ⟨w.heap.size + 1, 4, none⟩ = some (.int .i64 0) := cell_of_row _ _ _ _ _ (0, 0) HXx.r2
          have z2_5 : wx.cell? ⟨w.heap.size + 1, 5, none⟩ = some (.int .i64 3) := cell_of_row _ _ _ _ _ (0, 0) HXx.r2
          have z2_6 : wx.cell? ⟨w.heap.size + 1, 6, none⟩ = some (.int .i64 dw) := cell_of_row _ _ _ _ _ (0, 0) HXx.r2
          have z2_7 : wx.cell? ⟨w.heap.size + 1, 7, none⟩ = some (.int .i64 H) := cell_of_row _ _ _ _ _ (0, 0) HXx.r2
          have z2_8 : wx.cell? ⟨w.heap.size + 1, 8, none⟩ = some (.int .i64 0) := cell_of_row _ _ _ _ _ (0, 0) HXx.r2
          obtain ⟨k0, k1⟩ := HTK.out wx HXx.below
          have HK2 := Lib.hid hK
          have HX := Lib.hid hx
          clear hK h1 h2 hx
          go_simp
          first
            | (go_at_call 7; refine (FS.out _).mono ?_; rintro e x1 ⟨rfl, hb⟩; exact HK2.out _ (HX.out.quiet 0 (by rfl) hb))
            | exact HK2.out _ (HX.out.quiet 0 (by rfl) (Below.refl _ _))
        simp only [Act.put, List.setIfInBounds_toArray, List.set_cons_succ, List.set_cons_zero]
        apply Ghost.walk_const (fun γ => by rfl)
        · intro γ L wx h1 h2 hx K hK
          have HXx := HBR.out.next hx.below
          have z0_0 : wx.cell? ⟨gs, 0, none⟩ = some (.int .i64 s1) := cell_of_row _ _ _ _ _ (0, 0) HXx.r0
          have z0_1 : wx.cell? ⟨gs, 1, none⟩ = some (.int .i64 s2) := cell_of_row _ _ _ _ _ (0, 0) HXx.r0
          have z0_2 : wx.cell? ⟨gs, 2, none⟩ = some (.int .i64 s3) := cell_of_row _ _ _ _ _ (0, 0) HXx.r0
          have z0_3 : wx.cell? ⟨gs, 3, none⟩ = some (.bool s4) := cell_of_row _ _ _ _ _ (0, 0) HXx.r0
          have z0_4 : wx.cell? ⟨gs, 4, none⟩ = some (.int .i64 s5) := cell_of_row _ _ _ _ _ (0, 0) HXx.r0
          have z2_0 : wx.cell? ⟨w.heap.size + 1, 0, none⟩ = some (.int .i64 0) := cell_of_row _ _ _ _ _ (0, 0) HXx.r2
          have z2_1 : wx.cell? ⟨w.heap.size + 1, 1, none⟩ = some (.int .i64 0) := cell_of_row _ _ _ _ _ (0, 0) HXx.r2
          have z2_2 : wx.cell? ⟨w.heap.size + 1, 2, none⟩ = some (.int .i64 0) := cell_of_row _ _ _ _ _ (0, 0) HXx.r2
          have z2_3 : wx.cell? ⟨w.heap.size + 1, 3, none⟩ = some (.int .i64 0) := cell_of_row _ _ _ _ _ (0, 0) HXx.r2
          have z2_4 : wx.cell? ⟨w.heap.size + 1, 4, none⟩ = some (.int .i64 0) := cell_of_row _ _ _ _ _ (0, 0) HXx.r2
          have z2_5 : wx.cell? ⟨w.heap.size + 1, 5, none⟩ = some (.int .i64 3) := cell_of_row _ _ _ _ _ (0, 0) HXx.r2
          have z2_6 : wx.cell? ⟨w.heap.size + 1, 6, none⟩ = some (.int .i64 dw) := cell_of_row _ _ _ _ _ (0, 0) HXx.r2
          have z2_7 : wx.cell? ⟨w.heap.size + 1, 7, none⟩ = some (.int .i64 H) := cell_of_row _ _ _ _ _ (0, 0) HXx.r2
          have z2_8 : wx.cell? ⟨w.heap.size + 1, 8, none⟩ = some (.int .i64 0) := cell_of_row _ _ _ _ _ (0, 0) HXx.r2
          obtain ⟨k0, k1⟩ := HTK.out wx HXx.below
          have HK2 := Lib.hid hK
          have HX := Lib.hid hx
          clear hK h1 h2 hx
          go_simp
          first
            | (go_at_call 7; refine (FS.out _).mono ?_; rintro e x1 ⟨rfl, hb⟩; exact HK2.out _ (HX.out.quiet 0 (by rfl) hb))
            | exact HK2.out _ (HX.out.quiet 0 (by rfl) (Below.refl _ _))
        simp only [Act.put, List.setIfInBounds_toArray, List.set_cons_succ, List.set_cons_zero]
        apply Ghost.walk_const (fun γ => by rfl)
        · intro γ L wx h1 h2 hx K hK
          have HXx := HBR.out.next hx.below
          have z0_0 : wx.cell? ⟨gs, 0, none⟩ = some (.int .i64 s1) := cell_of_row _ _ _ _ _ (0, 0) HXx.r0
          have z0_1 : wx.cell? ⟨gs, 1, none⟩ = some (.int .i64 s2) := cell_of_row _ _ _ _ _ (0, 0) HXx.r0
          have z0_2 : wx.cell? ⟨gs, 2, none⟩ = some (.int .i64 s3) := cell_of_row _ _ _ _ _ (0, 0) HXx.r0
          have z0_3 : wx.cell? ⟨gs, 3, none⟩ = some (.bool s4) := cell_of_row _ _ _ _ _ (0, 0) HXx.r0
          have z0_4 : wx.cell? ⟨gs, 4, none⟩ = some (.int .i64 s5) := cell_of_row _ _ _ _ _ (0, 0) HXx.r0
          have z2_0 : wx.cell? ⟨w.heap.size + 1, 0, none⟩ = some (.int .i64 0) := cell_of_row _ _ _ _ _ (0, 0) HXx.r2
          have z2_1 : wx.cell? ⟨w.heap.size + 1, 1, none⟩ = some (.int .i64 0) := cell_of_row _ _ _ _ _ (0, 0) HXx.r2
          have z2_2 : wx.cell? ⟨w.heap.size + 1, 2, none⟩ = some (.int .i64 0) := cell_of_row _ _ _ _ _ (0, 0) HXx.r2
          have z2_3 : wx.cell? ⟨w.heap.size + 1, 3, none⟩ = some (.int .i64 0) := cell_of_row _ _ _ _ _ (0, 0) HXx.r2
          have z2_4 : wx.cell? ⟨w.heap.size + 1, 4, none⟩ = some (.int .i64 0) := cell_of_row _ _ _ _ _ (0, 0) HXx.r2
          have z2_5 : wx.cell? ⟨w.heap.size + 1, 5, none⟩ = some (.int .i64 3) := cell_of_row _ _ _ _ _ (0, 0) HXx.r2
          have z2_6 : wx.cell? ⟨w.heap.size + 1, 6, none⟩ = some (.int .i64 dw) := cell_of_row _ _ _ _ _ (0, 0) HXx.r2
          have z2_7 : wx.cell? ⟨w.heap.size + 1, 7, none⟩ = some (.int .i64 H) := cell_of_row _ _ _ _ _ (0, 0) HXx.r2
          have z2_8 : wx.cell? ⟨w.heap.size + 1, 8, none⟩ = some (.int .i64 0) := cell_of_row _ _ _ _ _ (0, 0) HXx.r2
          obtain ⟨k0, k1⟩ := HTK.out wx HXx.below
          have HK2 := Lib.hid hK
          have HX := Lib.hid hx
          clear hK h1 h2 hx
          go_simp
          first
            | (go_at_call 7; refine (FS.out _).mono ?_; rintro e x1 ⟨rfl, hb⟩; exact HK2.out _ (HX.out.quiet 0 (by rfl) hb))
            | exact HK2.out _ (HX.out.quiet 0 (by rfl) (Below.refl _ _))
        simp only [Act.put, List.setIfInBounds_toArray, List.set_cons_succ, List.set_cons_zero]
        apply Ghost.walk_const (fun γ => by rfl)
        · intro γ L wx h1 h2 hx K hK
          have HXx := HBR.out.next hx.below
          have z0_0 : wx.cell? ⟨gs, 0, none⟩ = some (.int .i64 s1) := cell_of_row _ _ _ _ _ (0, 0) HXx.r0
          have z0_1 : wx.cell? ⟨gs, 1, none⟩ = some (.int .i64 s2) := cell_of_row _ _ _ _ _ (0, 0) HXx.r0
          have z0_2 : wx.cell? ⟨gs, 2, none⟩ = some (.int .i64 s3) := cell_of_row _ _ _ _ _ (0, 0) HXx.r0
          have z0_3 : wx.cell? ⟨gs, 3, none⟩ = some (.bool s4) := cell_of_row _ _ _ _ _ (0, 0) HXx.r0
          have z0_4 : wx.cell? ⟨gs, 4, none⟩ = some (.int .i64 s5) := cell_of_row _ _ _ _ _ (0, 0) HXx.r0
          have z2_0 : wx.cell? ⟨w.heap.size + 1, 0, none⟩ = some (.int .i64 0) := cell_of_row _ _ _ _ _ (0, 0) HXx.r2
          have z2_1 : wx.cell? ⟨w.heap.size + 1, 1, none⟩ = some (.int .i64 0) := cell_of_row _ _ _ _ _ (0, 0) HXx.r2
          have z2_2 : wx.cell? ⟨w.heap.size + 1, 2, none⟩ = some (.int .i64 0) := cell_of_row _ _ _ _ _ (0, 0) HXx.r2
          have z2_3 : wx.cell? ⟨w.heap.size + 1, 3, none⟩ = some (.int .i64 0) := cell_of_row _ _ _ _ _ (0, 0) HXx.r2
          have z2_4 : wx.cell? ⟨w.heap.size + 1, 4, none⟩ = some (.int .i64 0) := cell_of_row _ _ _ _ _ (0, 0) HXx.r2
          have z2_5 : wx.cell? ⟨w.heap.size + 1, 5, none⟩ = some (.int .i64 3) := cell_of_row _ _ _ _ _ (0, 0) HXx.r2
          have z2_6 : wx.cell? ⟨w.heap.size + 1, 6, none⟩ = some (.int .i64 dw) := cell_of_row _ _ _ _ _ (0, 0) HXx.r2
          have z2_7 : wx.cell? ⟨w.heap.size + 1, 7, none⟩ = some (.int .i64 H) := cell_of_row _ _ _ _ _ (0, 0) HXx.r2
          have z2_8 : wx.cell? ⟨w.heap.size + 1, 8, none⟩ = some (.int .i64 0) := cell_of_row _ _ _ _ _ (0, 0) HXx.r2
          obtain ⟨k0, k1⟩ := HTK.out wx HXx.below
          have HK2 := Lib.hid hK
          have HX := Lib.hid hx
          clear hK h1 h2 hx
          go_simp
          first
            | (go_at_call 7; refine (FS.out _).mono ?_; rintro e x1 ⟨rfl, hb⟩; exact HK2.out _ (HX.out.quiet 0 (by rfl) hb))
            | exact HK2.out _ (HX.out.quiet 0 (by rfl) (Below.refl _ _))
        simp only [Act.put, List.setIfInBounds_toArray, List.set_cons_succ, List.set_cons_zero]
        apply Ghost.walk_const (fun γ => by rfl)
        · intro γ L wx h1 h2 hx K hK
          have HXx := HBR.out.next hx.below
          have z0_0 : wx.cell? ⟨gs, 0, none⟩ = some (.int .i64 s1) := cell_of_row _ _ _ _ _ (0, 0) HXx.r0
          have z0_1 : wx.cell? ⟨gs, 1, none⟩ = some (.int .i64 s2) := cell_of_row _ _ _ _ _ (0, 0) HXx.r0
          have z0_2 : wx.cell? ⟨gs, 2, none⟩ = some (.int .i64 s3) := cell_of_row _ _ _ _ _ (0, 0) HXx.r0
          have z0_3 : wx.cell? ⟨gs, 3, none⟩ = some (.bool s4) := cell_of_row _ _ _ _ _ (0, 0) HXx.r0
          have z0_4 : wx.cell? ⟨gs, 4, none⟩ = some (.int .i64 s5) := cell_of_row _ _ _ _ _ (0, 0) HXx.r0
          have z2_0 : wx.cell? ⟨w.heap.size + 1, 0, none⟩ = some (.int .i64 0) := cell_of_row _ _ _ _ _ (0, 0) HXx.r2
          have z2_1 : wx.cell? ⟨w.heap.size + 1, 1, none⟩ = some (.int .i64 0) := cell_of_row _ _ _ _ _ (0, 0) HXx.r2
          have z2_2 : wx.cell? ⟨w.heap.size + 1, 2, none⟩ = some (.int .i64 0) := cell_of_row _ _ _ _ _ (0, 0) HXx.r2
          have z2_3 : wx.cell? ⟨w.heap.size + 1, 3, none⟩ = some (.int .i64 0) := cell_of_row _ _ _ _ _ (0, 0) HXx.r2
          have z2_4 : wx.cell? ⟨w.heap.size + 1, 4, none⟩ = some (.int .i64 0) := cell_of_row _ _ _ _ _ (0, 0) HXx.r2
          have z2_5 : wx.cell? ⟨w.heap.size + 1, 5, none⟩ = some (.int .i64 3) := cell_of_row _ _ _ _ _ (0, 0) HXx.r2
          have z2_6 : wx.cell? ⟨w.heap.size + 1, 6, none⟩ = some (.int .i64 dw) := cell_of_row _ _ _ _ _ (0, 0) HXx.r2
          have z2_7 : wx.cell? ⟨w.heap.size + 1, 7, none⟩ = some (.int .i64 H) := cell_of_row _ _ _ _ _ (0, 0) HXx.r2
          have z2_8 : wx.cell? ⟨w.heap.size + 1, 8, none⟩ = some (.int .i64 0) := cell_of_row _ _ _ _ _ (0, 0) HXx.r2
          obtain ⟨k0, k1⟩ := HTK.out wx HXx.below
          have HK2 := Lib.hid hK
          have HX := Lib.hid hx
          clear hK h1 h2 hx
          go_simp
          first
            | (go_at_call 7; refine (FS.out _).mono ?_; rintro e x1 ⟨rfl, hb⟩; exact HK2.out _ (HX.out.quiet 0 (by rfl) hb))
            | exact HK2.out _ (HX.out.quiet 0 (by rfl) (Below.refl _ _))
        simp only [Act.put, List.setIfInBounds_toArray, List.set_cons_succ, List.set_cons_zero]
        apply Ghost.walk_const (fun γ => by rfl)
        · intro γ L wx h1 h2 hx K hK
          have HXx := HBR.out.next hx.below
          have z0_0 : wx.cell? ⟨gs, 0, none⟩ = some (.int .i64 s1) := cell_of_row _ _ _ _ _ (0, 0) HXx.r0
          have z0_1 : wx.cell? ⟨gs, 1, none⟩ = some (.int .i64 s2) := cell_of_row _ _ _ _ _ (0, 0) HXx.r0
          have z0_2 : wx.cell? ⟨gs, 2, none⟩ = some (.int .i64 s3) := cell_of_row _ _ _ _ _ (0, 0) HXx.r0
          have z0_3 : wx.cell? ⟨gs, 3, none⟩ = some (.bool s4) := cell_of_row _ _ _ _ _ (0, 0) HXx.r0
          have z0_4 : wx.cell? ⟨gs, 4, none⟩ = some (.int .i64 s5) := cell_of_row _ _ _ _ _ (0, 0) HXx.r0
          have z2_0 : wx.cell? ⟨w.heap.size + 1, 0, none⟩ = some (.int .i64 0) := cell_of_row _ _ _ _ _ (0, 0) HXx.r2
          have z2_1 : wx.cell? ⟨w.heap.size + 1, 1, none⟩ = some (.int .i64 0) := cell_of_row _ _ _ _ _ (0, 0) HXx.r2
          have z2_2 : wx.cell? ⟨w.heap.size + 1, 2, none⟩ = some (.int .i64 0) := cell_of_row _ _ _ _ _ (0, 0) HXx.r2
          have z2_3 : wx.cell? ⟨w.heap.size + 1, 3, none⟩ = some (.int .i64 0) := cell_of_row _ _ _ _ _ (0, 0) HXx.r2
          have z2_4 : wx.cell? ⟨w.heap.size + 1, 4, none⟩ = some (.int .i64 0) := cell_of_row _ _ _ _ _ (0, 0) HXx.r2
          have z2_5 : wx.cell? ⟨w.heap.size + 1, 5, none⟩ = some (.int .i64 3) := cell_of_row _ _ _ _ _ (0, 0) HXx.r2
          have z2_6 : wx.cell? ⟨w.heap.size + 1, 6, none⟩ = some (.int .i64 dw) := cell_of_row _ _ _ _ _ (0, 0) HXx.r2
          have z2_7 : wx.cell? ⟨w.heap.size + 1, 7, none⟩ = some (.int .i64 H) := cell_of_row _ _ _ _ _ (0, 0) HXx.r2
          have z2_8 : wx.cell? ⟨w.heap.size + 1, 8, none⟩ = some (.int .i64 0) := cell_of_row _ _ _ _ _ (0, 0) HXx.r2
          obtain ⟨k0, k1⟩ := HTK.out wx HXx.below
          have HK2 := Lib.hid hK
          have HX := Lib.hid hx
          clear hK h1 h2 hx
          go_simp
          first
            | (go_at_call 7; refine (FS.out _).mono ?_; rintro e x1 ⟨rfl, hb⟩; exact HK2.out _ (HX.out.quiet 0 (by rfl) hb))
            | exact HK2.out _ (HX.out.quiet 0 (by rfl) (Below.refl _ _))
        simp only [Act.put, List.setIfInBounds_toArray, List.set_cons_succ, List.set_cons_zero]
        apply Ghost.walk_const (fun γ => by rfl)
        · intro γ L wx h1 h2 hx K hK
          have HXx := HBR.out.next hx.below
          have z0_0 : wx.cell? ⟨gs, 0, none⟩ = some (.int .i64 s1) := cell_of_row _ _ _ _ _ (0, 0) HXx.r0
          have z0_1 : wx.cell? ⟨gs, 1, none⟩ = some (.int .i64 s2) := cell_of_row _ _ _ _ _ (0, 0) HXx.r0
          have z0_2 : wx.cell? ⟨gs, 2, none⟩ = some (.int .i64 s3) := cell_of_row _ _ _ _ _ (0, 0) HXx.r0
          have z0_3 : wx.cell? ⟨gs, 3, none⟩ = some (.bool s4) := cell_of_row _ _ _ _ _ (0, 0) HXx.r0
          have z0_4 : wx.cell? ⟨gs, 4, none⟩ = some (.int .i64 s5) := cell_of_row _ _ _ _ _ (0, 0) HXx.r0
          have z2_0 : wx.cell? ⟨w.heap.size + 1, 0, none⟩ = some (.int .i64 0) := cell_of_row _ _ _ _ _ (0, 0) HXx.r2
          have z2_1 : wx.cell? ⟨w.heap.size + 1, 1, none⟩ = some (.int .i64 0) := cell_of_row _ _ _ _ _ (0, 0) HXx.r2
          have z2_2 : wx.cell? ⟨w.heap.size + 1, 2, none⟩ = some (.int .i64 0) := cell_of_row _ _ _ _ _ (0, 0) HXx.r2
          have z2_3 : wx.cell? ⟨w.heap.size + 1, 3, none⟩ = some (.int .i64 0) := cell_of_row _ _ _ _ _ (0, 0) HXx.r2
          have z2_4 : wx.cell? ⟨w.heap.size + 1, 4, none⟩ = some (.int .i64 0) := cell_of_row _ _ _ _ _ (0, 0) HXx.r2
          have z2_5 : wx.cell? ⟨w.heap.size + 1, 5, none⟩ = some (.int .i64 3) := cell_of_row _ _ _ _ _ (0, 0) HXx.r2
          have z2_6 : wx.cell? ⟨w.heap.size + 1, 6, none⟩ = some (.int .i64 dw) := cell_of_row _ _ _ _ _ (0, 0) HXx.r2
          have z2_7 : wx.cell? ⟨w.heap.size + 1, 7, none⟩ = some (.int .i64 H) := cell_of_row _ _ _ _ _ (0, 0) HXx.r2
          have z2_8 : wx.cell? ⟨w.heap.size + 1, 8, none⟩ = some (.int .i64 0) := cell_of_row _ _ _ _ _ (0, 0) HXx.r2
          obtain ⟨k0, k1⟩ := HTK.out wx HXx.below
          have HK2 := Lib.hid hK
          have HX := Lib.hid hx
          clear hK h1 h2 hx
          go_simp
          first
            | (go_at_call 7; refine (FS.out _).mono ?_; rintro e x1 ⟨rfl, hb⟩; exact HK2.out _ (HX.out.quiet 0 (by rfl) hb))
            | exact HK2.out _ (HX.out.quiet 0 (by rfl) (Below.refl _ _))
        simp only [Act.put, List.setIfInBounds_toArray, List.set_cons_succ, List.set_cons_zero]
        apply Ghost.walk_const (fun γ => by rfl)
        · intro γ L wx h1 h2 hx K hK
          have HXx := HBR.out.next hx.below
          have z0_0 : wx.cell? ⟨gs, 0, none⟩ = some (.int .i64 s1) := cell_of_row _ _ _ _ _ (0, 0) HXx.r0
          have z0_1 : wx.cell? ⟨gs, 1, none⟩ = some (.int .i64 s2) := cell_of_row _ _ _ _ _ (0, 0) HXx.r0
          have z0_2 : wx.cell? ⟨gs, 2, none⟩ = some (.int .i64 s3) := cell_of_row _ _ _ _ _ (0, 0) HXx.r0
          have z0_3 : wx.cell? ⟨gs, 3, none⟩ = some (.bool s4) := cell_of_row _ _ _ _ _ (0, 0) HXx.r0
          have z0_4 : wx.cell? ⟨gs, 4, none⟩ = some (.int .i64 s5) := cell_of_row _ _ _ _ _ (0, 0) HXx.r0
          have z2_0 : wx.cell? ⟨w.heap.size + 1, 0, none⟩ = some (.int .i64 0) := cell_of_row _ _ _ _ _ (0, 0) HXx.r2
          have z2_1 : wx.cell? ⟨w.heap.size + 1, 1, none⟩ = some (.int .i64 0) := cell_of_row _ _ _ _ _ (0, 0) HXx.r2
          have z2_2 : wx.cell? ⟨w.heap.size + 1, 2, none⟩ = some (.int .i64 0) := cell_of_row _ _ _ _ _ (0, 0) HXx.r2
          have z2_3 : wx.cell? ⟨w.heap.size + 1, 3, none⟩ = some (.int .i64 0) := cell_of_row _ _ _ _ _ (0, 0) HXx.r2
          have z2_4 : wx.cell? ⟨w.heap.size + 1, 4, none⟩ = some (.int .i64 0) := cell_of_row _ _ _ _ _ (0, 0) HXx.r2
          have z2_5 : wx.cell? ⟨w.heap.size + 1, 5, none⟩ = some (.int .i64 3) := cell_of_row _ _ _ _ _ (0, 0) HXx.r2
          have z2_6 : wx.cell? ⟨w.heap.size + 1, 6, none⟩ = some (.int .i64 dw) := cell_of_row _ _ _ _ _ (0, 0) HXx.r2
          have z2_7 : wx.cell? ⟨w.heap.size + 1, 7, none⟩ = some (.int .i64 H) := cell_of_row _ _ _ _ _ (0, 0) HXx.r2
          have z2_8 : wx.cell? ⟨w.heap.size + 1, 8, none⟩ = some (.int .i64 0) := cell_of_row _ _ _ _ _ (0, 0) HXx.r2
          obtain ⟨k0, k1⟩ := HTK.out wx HXx.below
          have HK2 := Lib.hid hK
          have HX := Lib.hid hx
          clear hK h1 h2 hx
          go_simp
          first
            | (go_at_call 7; refine (FS.out _).mono ?_; rintro e x1 ⟨rfl, hb⟩; exact HK2.out _ (HX.out.quiet 0 (by rfl) hb))
            | exact HK2.out _ (HX.out.quiet 0 (by rfl) (Below.refl _ _))
        simp only [Act.put, List.setIfInBounds_toArray, List.set_cons_succ, List.set_cons_zero]
        apply Ghost.walk_const (fun γ => by rfl)
        · intro γ L wx h1 h2 hx K hK
          have HXx := HBR.out.next hx.below
          have z0_0 : wx.cell? ⟨gs, 0, none⟩ = some (.int .i64 s1) := cell_of_row _ _ _ _ _ (0, 0) HXx.r0
          have z0_1 : wx.cell? ⟨gs, 1, none⟩ = some (.int .i64 s2) := cell_of_row _ _ _ _ _ (0, 0) HXx.r0
          have z0_2 : wx.cell? ⟨gs, 2, none⟩ = some (.int .i64 s3) := cell_of_row _ _ _ _ _ (0, 0) HXx.r0
          have z0_3 : wx.cell? ⟨gs, 3, none⟩ = some (.bool s4) := cell_of_row _ _ _ _ _ (0, 0) HXx.r0
          have z0_4 : wx.cell? ⟨gs, 4, none⟩ = some (.int .i64 s5) := cell_of_row _ _ _ _ _ (0, 0) HXx.r0
          have z2_0 : wx.cell? ⟨w.heap.size + 1, 0, none⟩ = some (.int .i64 0) := cell_of_row _ _ _ _ _ (0, 0) HXx.r2
          have z2_1 : wx.cell? ⟨w.heap.size + 1, 1, none⟩ = some (.int .i64 0) := cell_of_row _ _ _ _ _ (0, 0) HXx.r2
          have z2_2 : wx.cell? ⟨w.heap.size + 1, 2, none⟩ = some (.int .i64 0) := cell_of_row _ _ _ _ _ (0, 0) HXx.r2
          have z2_3 : wx.cell? ⟨w.heap.size + 1, 3, none⟩ = some (.int .i64 0) := cell_of_row _ _ _ _ _ (0, 0) HXx.r2
          have z2_4 : wx.cell? ⟨w.heap.size + 1, 4, none⟩ = some (.int .i64 0) := cell_of_row _ _ _ _ _ (0, 0) HXx.r2
          have z2_5 : wx.cell? ⟨w.heap.size + 1, 5, none⟩ = some (.int .i64 3) := cell_of_row _ _ _ _ _ (0, 0) HXx.r2
          have z2_6 : wx.cell? ⟨w.heap.size + 1, 6, none⟩ = some (.int .i64 dw) := cell_of_row _ _ _ _ _ (0, 0) HXx.r2
          have z2_7 : wx.cell? ⟨w.heap.size + 1, 7, none⟩ = some (.int .i64 H) := cell_of_row _ _ _ _ _ (0, 0) HXx.r2
          have z2_8 : wx.cell? ⟨w.heap.size + 1, 8, none⟩ = some (.int .i64 0) := cell_of_row _ _ _ _ _ (0, 0) HXx.r2
          obtain ⟨k0, k1⟩ := HTK.out wx HXx.below
          have HK2 := Lib.hid hK
          have HX := Lib.hid hx
          clear hK h1 h2 hx
          go_simp
          first
            | (go_at_call 7; refine (FS.out _).mono ?_; rintro e x1 ⟨rfl, hb⟩; exact HK2.out _ (HX.out.quiet 0 (by rfl) hb))
            | exact HK2.out _ (HX.out.quiet 0 (by rfl) (Below.refl _ _))
        simp only [Act.put, List.setIfInBounds_toArray, List.set_cons_succ, List.set_cons_zero]
        apply Ghost.walk_const (fun γ => by rfl)
        · intro γ L wx h1 h2 hx K hK
          have HXx := HBR.out.next hx.below
          have z0_0 : wx.cell? ⟨gs, 0, none⟩ = some (.int .i64 s1) := cell_of_row _ _ _ _ _ (0, 0) HXx.r0
          have z0_1 : wx.cell? ⟨gs, 1, none⟩ = some (.int .i64 s2) := cell_of_row _ _ _ _ _ (0, 0) HXx.r0
          have z0_2 : wx.cell? ⟨gs, 2, none⟩ = some (.int .i64 s3) := cell_of_row _ _ _ _ _ (0, 0) HXx.r0
          have z0_3 : wx.cell? ⟨gs, 3, none⟩ = some (.bool s4) := cell_of_row _ _ _ _ _ (0, 0) HXx.r0
          have z0_4 : wx.cell? ⟨gs, 4, none⟩ = some (.int .i64 s5) := cell_of_row _ _ _ _ _ (0, 0) HXx.r0
          have z2_0 : wx.cell? ⟨w.heap.size + 1, 0, none⟩ = some (.int .i64 0) := cell_of_row _ _ _ _ _ (0, 0) HXx.r2
          have z2_1 : wx.cell? ⟨w.heap.size + 1, 1, none⟩ = some (.int .i64 0) := cell_of_row _ _ _ _ _ (0, 0) HXx.r2
          have z2_2 : wx.cell? ⟨w.heap.size + 1, 2, none⟩ = some (.int .i64 0) := cell_of_row _ _ _ _ _ (0, 0) HXx.r2
          have z2_3 : wx.cell? ⟨w.heap.size + 1, 3, none⟩ = some (.int .i64 0) := cell_of_row _ _ _ _ _ (0, 0) HXx.r2
          have z2_4 : wx.cell? ⟨w.heap.size + 1, 4, none⟩ = some (.int .i64 0) := cell_of_row _ _ _ _ _ (0, 0) HXx.r2
          have z2_5 : wx.cell? ⟨w.heap.size + 1, 5, none⟩ = some (.int .i64 3) := cell_of_row _ _ _ _ _ (0, 0) HXx.r2
          have z2_6 : wx.cell? ⟨w.heap.size + 1, 6, none⟩ = some (.int .i64 dw) := cell_of_row _ _ _ _ _ (0, 0) HXx.r2
          have z2_7 : wx.cell? ⟨w.heap.size + 1, 7, none⟩ = some (.int .i64 H) := cell_of_row _ _ _ _ _ (0, 0) HXx.r2
          have z2_8 : wx.cell? ⟨w.heap.size + 1, 8, none⟩ = some (.int .i64 0) := cell_of_row _ _ _ _ _ (0, 0) HXx.r2
          obtain ⟨k0, k1⟩ := HTK.out wx HXx.below
          have HK2 := Lib.hid hK
          have HX := Lib.hid hx
          clear hK h1 h2 hx
          go_simp
          first
            | (go_at_call 7; refine (FS.out _).mono ?_; rintro e x1 ⟨rfl, hb⟩; exact HK2.out _ (HX.out.quiet 0 (by rfl) hb))
            | exact HK2.out _ (HX.out.quiet 0 (by rfl) (Below.refl _ _))
        simp only [Act.put, List.setIfInBounds_toArray, List.set_cons_succ, List.set_cons_zero]
        apply Ghost.walk_const (fun γ => by rfl)
        · intro γ L wx h1 h2 hx K hK
          have HXx := HBR.out.next hx.below
          have z0_0 : wx.cell? ⟨gs, 0, none⟩ = some (.int .i64 s1) := cell_of_row _ _ _ _ _ (0, 0) HXx.r0
          have z0_1 : wx.cell? ⟨gs, 1, none⟩ = some (.int .i64 s2) := cell_of_row _ _ _ _ _ (0, 0) HXx.r0
          have z0_2 : wx.cell? ⟨gs, 2, none⟩ = some (.int .i64 s3) := cell_of_row _ _ _ _ _ (0, 0) HXx.r0
          have z0_3 : wx.cell? ⟨gs, 3, none⟩ = some (.bool s4) := cell_of_row _ _ _ _ _ (0, 0) HXx.r0
          have z0_4 : wx.cell? ⟨gs, 4, none⟩ = some (.int .i64 s5) := cell_of_row _ _ _ _ _ (0, 0) HXx.r0
          have z2_0 : wx.cell? ⟨w.heap.size + 1, 0, none⟩ = some (.int .i64 0) := cell_of_row _ _ _ _ _ (0, 0) HXx.r2
          have z2_1 : wx.cell? ⟨w.heap.size + 1, 1, none⟩ = some (.int .i64 0) := cell_of_row _ _ _ _ _ (0, 0) HXx.r2
          have z2_2 : wx.cell? ⟨w.heap.size + 1, 2, none⟩ = some (.int .i64 0) := cell_of_row _ _ _ _ _ (0, 0) HXx.r2
          have z2_3 : wx.cell? ⟨w.heap.size + 1, 3, none⟩ = some (.int .i64 0) := cell_of_row _ _ _ _ _ (0, 0) HXx.r2
          have z2_4 : wx.cell? ⟨w.heap.size + 1, 4, none⟩ = some (.int .i64 0) := cell_of_row _ _ _ _ _ (0, 0) HXx.r2
          have z2_5 : wx.cell? ⟨w.heap.size + 1, 5, none⟩ = some (.int .i64 3) := cell_of_row _ _ _ _ _ (0, 0) HXx.r2
          have z2_6 : wx.cell? ⟨w.heap.size + 1, 6, none⟩ = some (.int .i64 dw) := cell_of_row _ _ _ _ _ (0, 0) HXx.r2
          have z2_7 : wx.cell? ⟨w.heap.size + 1, 7, none⟩ = some (.int .i64 H) := cell_of_row _ _ _ _ _ (0, 0) HXx.r2
          have z2_8 : wx.cell? ⟨w.heap.size + 1, 8, none⟩ = some (.int .i64 0) := cell_of_row _ _ _ _ _ (0, 0) HXx.r2
          obtain ⟨k0, k1⟩ := HTK.out wx HXx.below
          have HK2 := Lib.hid hK
          have HX := Lib.hid hx
          clear hK h1 h2 hx
          go_simp
          first
            | (go_at_call 7; refine (FS.out _).mono ?_; rintro e x1 ⟨rfl, hb⟩; exact HK2.out _ (HX.out.quiet 0 (by rfl) hb))
            | exact HK2.out _ (HX.out.quiet 0 (by rfl) (Below.refl _ _))
        simp only [Act.put, List.setIfInBounds_toArray, List.set_cons_succ, List.set_cons_zero]
        apply Ghost.walk_const (fun γ => by rfl)
        · intro γ L wx h1 h2 hx K hK
          have HXx := HBR.out.next hx.below
          have z0_0 : wx.cell? ⟨gs, 0, none⟩ = some (.int .i64 s1) := cell_of_row _ _ _ _ _ (0, 0) HXx.r0
          have z0_1 : wx.cell? ⟨gs, 1, none⟩ = some (.int .i64 s2) := cell_of_row _ _ _ _ _ (0, 0) HXx.r0
          have z0_2 : wx.cell? ⟨gs, 2, none⟩ = some (.int .i64 s3) := cell_of_row _ _ _ _ _ (0, 0) HXx.r0
          have z0_3 : wx.cell? ⟨gs, 3, none⟩ = some (.bool s4) := cell_of_row _ _ _ _ _ (0, 0) HXx.r0
          have z0_4 : wx.cell? ⟨gs, 4, none⟩ = some (.int .i64 s5) := cell_of_row _ _ _ _ _ (0, 0) HXx.r0
          have z2_0 : wx.cell? ⟨w.heap.size + 1, 0, none⟩ = some (.int .i64 0) := cell_of_row _ _ _ _ _ (0, 0) HXx.r2
          have z2_1 : wx.cell? ⟨w.heap.size + 1, 1, none⟩ = some (.int .i64 0) := cell_of_row _ _ _ _ _ (0, 0) HXx.r2
          have z2_2 : wx.cell? ⟨w.heap.size + 1, 2, none⟩ = some (.int .i64 0) := cell_of_row _ _ _ _ _ (0, 0) HXx.r2
          have z2_3 : wx.cell? ⟨w.heap.size + 1, 3, none⟩ = some (.int .i64 0) := cell_of_row _ _ _ _ _ (0, 0) HXx.r2
          have z2_4 : wx.cell? ⟨w.heap.size + 1, 4, none⟩ = some (.int .i64 0) := cell_of_row _ _ _ _ _ (0, 0) HXx.r2
          have z2_5 : wx.cell? ⟨w.heap.size + 1, 5, none⟩ = some (.int .i64 3) := cell_of_row _ _ _ _ _ (0, 0) HXx.r2
          have z2_6 : wx.cell? ⟨w.heap.size + 1, 6, none⟩ = some (.int .i64 dw) := cell_of_row _ _ _ _ _ (0, 0) HXx.r2
          have z2_7 : wx.cell? ⟨w.heap.size + 1, 7, none⟩ = some (.int .i64 H) := cell_of_row _ _ _ _ _ (0, 0) HXx.r2
          have z2_8 : wx.cell? ⟨w.heap.size + 1, 8, none⟩ = some (.int .i64 0) := cell_of_row _ _ _ _ _ (0, 0) HXx.r2
          obtain ⟨k0, k1⟩ := HTK.out wx HXx.below
          have HK2 := Lib.hid hK
          have HX := Lib.hid hx
          clear hK h1 h2 hx
          go_simp
          first
            | (go_at_call 7; refine (FS.out _).mono ?_; rintro e x1 ⟨rfl, hb⟩; exact HK2.out _ (HX.out.quiet 0 (by rfl) hb))
            | exact HK2.out _ (HX.out.quiet 0 (by rfl) (Below.refl _ _))
        simp only [Act.put, List.setIfInBounds_toArray, List.set_cons_succ, List.set_cons_zero]
        apply Ghost.walk_const (fun γ => by rfl)
        · intro γ L wx h1 h2 hx K hK
          have HXx := HBR.out.next hx.below
          have z0_0 : wx.cell? ⟨gs, 0, none⟩ = some (.int .i64 s1) := cell_of_row _ _ _ _ _ (0, 0) HXx.r0
          have z0_1 : wx.cell? ⟨gs, 1, none⟩ = some (.int .i64 s2) := cell_of_row _ _ _ _ _ (0, 0) HXx.r0
          have z0_2 : wx.cell? ⟨gs, 2, none⟩ = some (.int .i64 s3) := cell_of_row _ _ _ _ _ (0, 0) HXx.r0
          have z0_3 : wx.cell? ⟨gs, 3, none⟩ = some (.bool s4) := cell_of_row _ _ _ _ _ (0, 0) HXx.r0
          have z0_4 : wx.cell? ⟨gs, 4, none⟩ = some (.int .i64 s5) := cell_of_row _ _ _ _ _ (0, 0) HXx.r0
          have z2_0 : wx.cell? ⟨w.heap.size + 1, 0, none⟩ = some (.int .i64 0) := cell_of_row _ _ _ _ _ (0, 0) HXx.r2
          have z2_1 : wx.cell? ⟨w.heap.size + 1, 1, none⟩ = some (.int .i64 0) := cell_of_row _ _ _ _ _ (0, 0) HXx.r2
          have z2_2 : wx.cell? ⟨w.heap.size + 1, 2, none⟩ = some (.int .i64 0) := cell_of_row _ _ _ _ _ (0, 0) HXx.r2
          have z2_3 : wx.cell? ⟨w.heap.size + 1, 3, none⟩ = some (.int .i64 0) := cell_of_row _ _ _ _ _ (0, 0) HXx.r2
          have z2_4 : wx.cell? ⟨w.heap.size + 1, 4, none⟩ = some (.int .i64 0) := cell_of_row _ _ _ _ _ (0, 0) HXx.r2
          have z2_5 : wx.cell? ⟨w.heap.size + 1, 5, none⟩ = some (.int .i64 3) := cell_of_row _ _ _ _ _ (0, 0) HXx.r2
          have z2_6 : wx.cell? ⟨w.heap.size + 1, 6, none⟩ = some (.int .i64 dw) := cell_of_row _ _ _ _ _ (0, 0) HXx.r2
          have z2_7 : wx.cell? ⟨w.heap.size + 1, 7, none⟩ = some (.int .i64 H) := cell_of_row _ _ _ _ _ (0, 0) HXx.r2
          have z2_8 : wx.cell? ⟨w.heap.size + 1, 8, none⟩ = some (.int .i64 0) := cell_of_row _ _ _ _ _ (0, 0) HXx.r2
          obtain ⟨k0, k1⟩ := HTK.out wx HXx.below
          have HK2 := Lib.hid hK
          have HX := Lib.hid hx
          clear hK h1 h2 hx
          go_simp
          first
            | (go_at_call 7; refine (FS.out _).mono ?_; rintro e x1 ⟨rfl, hb⟩; exact HK2.out _ (HX.out.quiet 0 (by rfl) hb))
            | exact HK2.out _ (HX.out.quiet 0 (by rfl) (Below.refl _ _))
        simp only [Act.put, List.setIfInBounds_toArray, List.set_cons_succ, List.set_cons_zero]
        apply Ghost.walk_const (fun γ => by rfl)
        · intro γ L wx h1 h2 hx K hK
          have HXx := HBR.out.next hx.below
          have z0_0 : wx.cell? ⟨gs, 0, none⟩ = some (.int .i64 s1) := cell_of_row _ _ _ _ _ (0, 0) HXx.r0
          have z0_1 : wx.cell? ⟨gs, 1, none⟩ = some (.int .i64 s2) := cell_of_row _ _ _ _ _ (0, 0) HXx.r0
          have z0_2 : wx.cell? ⟨gs, 2, none⟩ = some (.int .i64 s3) := cell_of_row _ _ _ _ _ (0, 0) HXx.r0
          have z0_3 : wx.cell? ⟨gs, 3, none⟩ = some (.bool s4) := cell_of_row _ _ _ _ _ (0, 0) HXx.r0
          have z0_4 : wx.cell? ⟨gs, 4, none⟩ = some (.int .i64 s5) := cell_of_row _ _ _ _ _ (0, 0) HXx.r0
          have z2_0 : wx.cell? ⟨w.heap.size + 1, 0, none⟩ = some (.int .i64 0) := cell_of_row _ _ _ _ _ (0, 0) HXx.r2
          have z2_1 : wx.cell? ⟨w.heap.size + 1, 1, none⟩ = some (.int .i64 0) := cell_of_row _ _ _ _ _ (0, 0) HXx.r2
          have z2_2 : wx.cell? ⟨w.heap.size + 1, 2, none⟩ = some (.int .i64 0) := cell_of_row _ _ _ _ _ (0, 0) HXx.r2
          have z2_3 : wx.cell? ⟨w.heap.size + 1, 3, none⟩ = some (.int .i64 0) := cell_of_row _ _ _ _ _ (0, 0) HXx.r2
          have z2_4 : wx.cell? ⟨w.heap.size + 1, 4, none⟩ = some (.int .i64 0) := cell_of_row _ _ _ _ _ (0, 0) HXx.r2
          have z2_5 : wx.cell? ⟨w.heap.size + 1, 5, none⟩ = some (.int .i64 3) := cell_of_row _ _ _ _ _ (0, 0) HXx.r2
          have z2_6 : wx.cell? ⟨w.heap.size + 1, 6, none⟩ = some (.int .i64 dw) := cell_of_row _ _ _ _ _ (0, 0) HXx.r2
          have z2_7 : wx.cell? ⟨w.heap.size + 1, 7, none⟩ = some (.int .i64 H) := cell_of_row _ _ _ _ _ (0, 0) HXx.r2
          have z2_8 : wx.cell? ⟨w.heap.size + 1, 8, none⟩ = some (.int .i64 0) := cell_of_row _ _ _ _ _ (0, 0) HXx.r2
          obtain ⟨k0, k1⟩ := HTK.out wx HXx.below
          have HK2 := Lib.hid hK
          have HX := Lib.hid hx
          clear hK h1 h2 hx
          go_simp
          first
            | (go_at_call 7; refine (FS.out _).mono ?_; rintro e x1 ⟨rfl, hb⟩; exact HK2.out _ (HX.out.quiet 0 (by rfl) hb))
            | exact HK2.out _ (HX.out.quiet 0 (by rfl) (Below.refl _ _))
        simp only [Act.put, List.setIfInBounds_toArray, List.set_cons_succ, List.set_cons_zero]
        apply Ghost.walk_const (fun γ => by rfl)
        · intro γ L wx h1 h2 hx K hK
          have HXx := HBR.out.next hx.below
          have z0_0 : wx.cell? ⟨gs, 0, none⟩ = some (.int .i64 s1) := cell_of_row _ _ _ _ _ (0, 0) HXx.r0
          have z0_1 : wx.cell? ⟨gs, 1, none⟩ = some (.int .i64 s2) := cell_of_row _ _ _ _ _ (0, 0) HXx.r0
          have z0_2 : wx.cell? ⟨gs, 2, none⟩ = some (.int .i64 s3) := cell_of_row _ _ _ _ _ (0, 0) HXx.r0
          have z0_3 : wx.cell? ⟨gs, 3, none⟩ = some (.bool s4) := cell_of_row _ _ _ _ _ (0, 0) HXx.r0
          have z0_4 : wx.cell? ⟨gs, 4, none⟩ = some (.int .i64 s5) := cell_of_row _ _ _ _ _ (0, 0) HXx.r0
          have z2_0 : wx.cell? ⟨w.heap.size + 1, 0, none⟩ = some (.int .i64 0) := cell_of_row _ _ _ _ _ (0, 0) HXx.r2
          have z2_1 : wx.cell? ⟨w.heap.size + 1, 1, none⟩ = some (.int .i64 0) := cell_of_row _ _ _ _ _ (0, 0) HXx.r2
          have z2_2 : wx.cell? ⟨w.heap.size + 1, 2, none⟩ = some (.int .i64 0) := cell_of_row _ _ _ _ _ (0, 0) HXx.r2
          have z2_3 : wx.cell? ⟨w.heap.size + 1, 3, none⟩ = some (.int .i64 0) := cell_of_row _ _ _ _ _ (0, 0) HXx.r2
          have z2_4 : wx.cell? ⟨w.heap.size + 1, 4, none⟩ = some (.int .i64 0) := cell_of_row _ _ _ _ _ (0, 0) HXx.r2
          have z2_5 : wx.cell? ⟨w.heap.size + 1, 5, none⟩ = some (.int .i64 3) := cell_of_row _ _ _ _ _ (0, 0) HXx.r2
          have z2_6 : wx.cell? ⟨w.heap.size + 1, 6, none⟩ = some (.int .i64 dw) := cell_of_row _ _ _ _ _ (0, 0) HXx.r2
          have z2_7 : wx.cell? ⟨w.heap.size + 1, 7, none⟩ = some (.int .i64 H) := cell_of_row _ _ _ _ _ (0, 0) HXx.r2
          have z2_8 : wx.cell? ⟨w.heap.size + 1, 8, none⟩ = some (.int .i64 0) := cell_of_row _ _ _ _ _ (0, 0) HXx.r2
          obtain ⟨k0, k1⟩ := HTK.out wx HXx.below
          have HK2 := Lib.hid hK
          have HX := Lib.hid hx
          clear hK h1 h2 hx
          go_simp
          first
            | (go_at_call 7; refine (FS.out _).mono ?_; rintro e x1 ⟨rfl, hb⟩; exact HK2.out _ (HX.out.quiet 0 (by rfl) hb))
            | exact HK2.out _ (HX.out.quiet 0 (by rfl) (Below.refl _ _))
        simp only [Act.put, List.setIfInBounds_toArray, List.set_cons_succ, List.set_cons_zero]
        apply Ghost.walk_const (fun γ => by rfl)
        · intro γ L wx h1 h2 hx K hK
          have HXx := HBR.out.next hx.below
          have z0_0 : wx.cell? ⟨gs, 0, none⟩ = some (.int .i64 s1) := cell_of_row _ _ _ _ _ (0, 0) HXx.r0
          have z0_1 : wx.cell? ⟨gs, 1, none⟩ = some (.int .i64 s2) := cell_of_row _ _ _ _ _ (0, 0) HXx.r0
          have z0_2 : wx.cell? ⟨gs, 2, none⟩ = some (.int .i64 s3) := cell_of_row _ _ _ _ _ (0, 0) HXx.r0
          have z0_3 : wx.cell? ⟨gs, 3, none⟩ = some (.bool s4) := cell_of_row _ _ _ _ _ (0, 0) HXx.r0
          have z0_4 : wx.cell? ⟨gs, 4, none⟩ = some (.int .i64 s5) := cell_of_row _ _ _ _ _ (0, 0) HXx.r0
          have z2_0 : wx.cell? ⟨w.heap.size + 1, 0, none⟩ = some (.int .i64 0) := cell_of_row _ _ _ _ _ (0, 0) HXx.r2
          have z2_1 : wx.cell? ⟨w.heap.size + 1, 1, none⟩ = some (.int .i64 0) := cell_of_row _ _ _ _ _ (0, 0) HXx.r2
          have z2_2 : wx.cell? ⟨w.heap.size + 1, 2, none⟩ = some (.int .i64 0) := cell_of_row _ _ _ _ _ (0, 0) HXx.r2
          have z2_3 : wx.cell? ⟨w.heap.size + 1, 3, none⟩ = some (.int .i64 0) := cell_of_row _ _ _ _ _ (0, 0) HXx.r2
          have z2_4 : wx.cell? ⟨w.heap.size + 1, 4, none⟩ = some (.int .i64 0) := cell_of_row _ _ _ _ _ (0, 0) HXx.r2
          have z2_5 : wx.cell? ⟨w.heap.size + 1, 5, none⟩ = some (.int .i64 3) := cell_of_row _ _ _ _ _ (0, 0) HXx.r2
          have z2_6 : wx.cell? ⟨w.heap.size + 1, 6, none⟩ = some (.int .i64 dw) := cell_of_row _ _ _ _ _ (0, 0) HXx.r2
          have z2_7 : wx.cell? ⟨w.heap.size + 1, 7, none⟩ = some (.int .i64 H) := cell_of_row _ _ _ _ _ (0, 0) HXx.r2
          have z2_8 : wx.cell? ⟨w.heap.size + 1, 8, none⟩ = some (.int .i64 0) := cell_of_row _ _ _ _ _ (0, 0) HXx.r2
          obtain ⟨k0, k1⟩ := HTK.out wx HXx.below
          have HK2 := Lib.hid hK
          have HX := Lib.hid hx
          clear hK h1 h2 hx
          go_simp
          first
            | (go_at_call 7; refine (FS.out _).mono ?_; rintro e x1 ⟨rfl, hb⟩; exact HK2.out _ (HX.out.quiet 0 (by rfl) hb))
            | exact HK2.out _ (HX.out.quiet 0 (by rfl) (Below.refl _ _))
        simp only [Act.put, List.setIfInBounds_toArray, List.set_cons_succ, List.set_cons_zero]
        refine Ghost.walk_yes (fun b => .pointer (some ⟨b, 0, none⟩)) (fun γ => by rfl) ?_ ?_
        · intro γ L wx h1 h2 hx K hK
          have HK2 := Lib.hid hK
          clear hK h2
          have hL : L (⟨16, 17, 25, #[.int .i64 0, .int .i64 0, .int .i64 0, .bool false, .int .i64 0], #[.int .i64 a, .int .i64 b, .int .i64 c, .bool d, .int .i64 e]⟩ : Decl).al = false := h1
          clear h1
          go_simp
          exact HK2.out wx.heap.size _ (hx.alloc (⟨16, 17, 25, #[.int .i64 0, .int .i64 0, .int .i64 0, .bool false, .int .i64 0], #[.int .i64 a, .int .i64 b, .int .i64 c, .bool d, .int .i64 e]⟩ : Decl) (decl_mem _) hL (by rfl) (decl_al _))
        simp only [Act.put, List.setIfInBounds_toArray, List.set_cons_succ, List.set_cons_zero]
        refine Ghost.walk_yes (fun _ => undef) (fun γ => by rfl) ?_ ?_
        · intro γ L wx h1 h2 hx K hK
          have hA : L (⟨16, 17, 25, #[.int .i64 0, .int .i64 0, .int .i64 0, .bool false, .int .i64 0], #[.int .i64 a, .int .i64 b, .int .i64 c, .bool d, .int .i64 e]⟩ : Decl).al = true := h2 16 (by kernel_rfl)
          exact hx.wp_store (⟨16, 17, 25, #[.int .i64 0, .int .i64 0, .int .i64 0, .bool false, .int .i64 0], #[.int .i64 a, .int .i64 b, .int .i64 c, .bool d, .int .i64 e]⟩ : Decl) (decl_mem _) h1 hA _ _ rfl rfl rfl (by kernel_rfl) rfl (by kernel_rfl) (hK 0 _ (hx.store (⟨16, 17, 25, #[.int .i64 0, .int .i64 0, .int .i64 0, .bool false, .int .i64 0], #[.int .i64 a, .int .i64 b, .int .i64 c, .bool d, .int .i64 e]⟩ : Decl) (decl_mem _) hA (by rfl) (decl_st _) (decl_al _) 0))
        simp only [Act.put]
        apply Ghost.walk_const (fun γ => by rfl)
        · intro γ L wx h1 h2 hx K hK
          have HXx := HBR.out.next hx.below
          have z0_0 : wx.cell? ⟨gs, 0, none⟩ = some (.int .i64 s1) := cell_of_row _ _ _ _ _ (0, 0) HXx.r0
          have z0_1 : wx.cell? ⟨gs, 1, none⟩ = some (.int .i64 s2) := cell_of_row _ _ _ _ _ (0, 0) HXx.r0
          have z0_2 : wx.cell? ⟨gs, 2, none⟩ = some (.int .i64 s3) := cell_of_row _ _ _ _ _ (0, 0) HXx.r0
          have z0_3 : wx.cell? ⟨gs, 3, none⟩ = some (.bool s4) := cell_of_row _ _ _ _ _ (0, 0) HXx.r0
          have z0_4 : wx.cell? ⟨gs, 4, none⟩ = some (.int .i64 s5) := cell_of_row _ _ _ _ _ (0, 0) HXx.r0
          have z2_0 : wx.cell? ⟨w.heap.size + 1, 0, none⟩ = some (.int .i64 0) := cell_of_row _ _ _ _ _ (0, 0) HXx.r2
          have z2_1 : wx.cell? ⟨w.heap.size + 1, 1, none⟩ = some (.int .i64 0) := cell_of_row _ _ _ _ _ (0, 0) HXx.r2
          have z2_2 : wx.cell? ⟨w.heap.size + 1, 2, none⟩ = some (.int .i64 0) := cell_of_row _ _ _ _ _ (0, 0) HXx.r2
          have z2_3 : wx.cell? ⟨w.heap.size + 1, 3, none⟩ = some (.int .i64 0) := cell_of_row _ _ _ _ _ (0, 0) HXx.r2
          have z2_4 : wx.cell? ⟨w.heap.size + 1, 4, none⟩ = some (.int .i64 0) := cell_of_row _ _ _ _ _ (0, 0) HXx.r2
          have z2_5 : wx.cell? ⟨w.heap.size + 1, 5, none⟩ = some (.int .i64 3) := cell_of_row _ _ _ _ _ (0, 0) HXx.r2
          have z2_6 : wx.cell? ⟨w.heap.size + 1, 6, none⟩ = some (.int .i64 dw) := cell_of_row _ _ _ _ _ (0, 0) HXx.r2
          have z2_7 : wx.cell? ⟨w.heap.size + 1, 7, none⟩ = some (.int .i64 H) := cell_of_row _ _ _ _ _ (0, 0) HXx.r2
          have z2_8 : wx.cell? ⟨w.heap.size + 1, 8, none⟩ = some (.int .i64 0) := cell_of_row _ _ _ _ _ (0, 0) HXx.r2
          obtain ⟨k0, k1⟩ := HTK.out wx HXx.below
          have HK2 := Lib.hid hK
          have HX := Lib.hid hx
          clear hK h1 h2 hx
          go_simp
          first
            | (go_at_call 7; refine (FS.out _).mono ?_; rintro e x1 ⟨rfl, hb⟩; exact HK2.out _ (HX.out.quiet 0 (by rfl) hb))
            | exact HK2.out _ (HX.out.quiet 0 (by rfl) (Below.refl _ _))
        simp only [Act.put, List.setIfInBounds_toArray, List.set_cons_succ, List.set_cons_zero]
        refine Ghost.walk_nil (fun γ L w5 hall hD => ?_)
        obtain ⟨hd5, hr5, hb5⟩ := hD.done1 hall (by show 16 < 19; decide) (by show 17 < 19; decide)
        clear hall hD
        simp only [Nat.zero_add, Nat.reduceAdd] at hd5 hr5 ⊢
        generalize γ 16 = gt at *
        have HB5 := Lib.hid (HBR.out.make hr5 hb5)
        have l5_0 : gs < gt := by omega
        have l5_1 : w.heap.size < gt := by omega
        have l5_2 : w.heap.size + 1 < gt := by omega
        have lw5 : w.heap.size ≤ gt := by have := HBR.out.below.size; omega
        clear c0_0 c0_1 c0_2 c0_3 c0_4 c2_0 c2_1 c2_2 c2_3 c2_4 c2_5 c2_6 c2_7 c2_8 hd5 hr5 hb5 HBR q0 q1 q2
        have c0_0 : w5.cell? ⟨gt, 0, none⟩ = some (.int .i64 a) := cell_of_row _ _ _ _ _ (0, 0) HB5.out.r0
        have c0_1 : w5.cell? ⟨gt, 1, none⟩ = some (.int .i64 b) := cell_of_row _ _ _ _ _ (0, 0) HB5.out.r0
        have c0_2 : w5.cell? ⟨gt, 2, none⟩ = some (.int .i64 c) := cell_of_row _ _ _ _ _ (0, 0) HB5.out.r0
        have c0_3 : w5.cell? ⟨gt, 3, none⟩ = some (.bool d) := cell_of_row _ _ _ _ _ (0, 0) HB5.out.r0
        have c0_4 : w5.cell? ⟨gt, 4, none⟩ = some (.int .i64 e) := cell_of_row _ _ _ _ _ (0, 0) HB5.out.r0
        have c1_0 : w5.cell? ⟨gs, 0, none⟩ = some (.int .i64 s1) := cell_of_row _ _ _ _ _ (0, 0) HB5.out.r1
        have c1_1 : w5.cell? ⟨gs, 1, none⟩ = some (.int .i64 s2) := cell_of_row _ _ _ _ _ (0, 0) HB5.out.r1
        have c1_2 : w5.cell? ⟨gs, 2, none⟩ = some (.int .i64 s3) := cell_of_row _ _ _ _ _ (0, 0) HB5.out.r1
        have c1_3 : w5.cell? ⟨gs, 3, none⟩ = some (.bool s4) := cell_of_row _ _ _ _ _ (0, 0) HB5.out.r1
        have c1_4 : w5.cell? ⟨gs, 4, none⟩ = some (.int .i64 s5) := cell_of_row _ _ _ _ _ (0, 0) HB5.out.r1
        have c3_0 : w5.cell? ⟨w.heap.size + 1, 0, none⟩ = some (.int .i64 0) := cell_of_row _ _ _ _ _ (0, 0) HB5.out.r3
        have c3_1 : w5.cell? ⟨w.heap.size + 1, 1, none⟩ = some (.int .i64 0) := cell_of_row _ _ _ _ _ (0, 0) HB5.out.r3
        have c3_2 : w5.cell? ⟨w.heap.size + 1, 2, none⟩ = some (.int .i64 0) := cell_of_row _ _ _ _ _ (0, 0) HB5.out.r3
        have c3_3 : w5.cell? ⟨w.heap.size + 1, 3, none⟩ = some (.int .i64 0) := cell_of_row _ _ _ _ _ (0, 0) HB5.out.r3
        have c3_4 : w5.cell? ⟨w.heap.size + 1, 4, none⟩ = some (.int .i64 0) := cell_of_row _ _ _ _ _ (0, 0) HB5.out.r3
        have c3_5 : w5.cell? ⟨w.heap.size + 1, 5, none⟩ = some (.int .i64 3) := cell_of_row _ _ _ _ _ (0, 0) HB5.out.r3
        have c3_6 : w5.cell? ⟨w.heap.size + 1, 6, none⟩ = some (.int .i64 dw) := cell_of_row _ _ _ _ _ (0, 0) HB5.out.r3
        have c3_7 : w5.cell? ⟨w.heap.size + 1, 7, none⟩ = some (.int .i64 H) := cell_of_row _ _ _ _ _ (0, 0) HB5.out.r3
        have c3_8 : w5.cell? ⟨w.heap.size + 1, 8, none⟩ = some (.int .i64 0) := cell_of_row _ _ _ _ _ (0, 0) HB5.out.r3
        obtain ⟨k0, k1⟩ := HTK.out w5 HB5.out.below
        obtain ⟨n2, hn2⟩ : ∃ n2, Dr.sinceI ⟨a, b, c, d, e⟩ n = n2 := ⟨_, rfl⟩
        rw [hn2] at HNS
        have HN2 := Lib.hid hn2
        clear hn2
        go_upto_region 14 with fail
        go_cut [71] from 37 to 146 (fun v71 wx => v71 = .bool (decide (a = 2 ∧ n = 0)) ∧ wx = w5)
        case first =>
          by_cases ha : a = 2
          · subst ha
            by_cases hn : n = 0
            · subst hn
              go_wp2_with fail
              go_meet
              exact ⟨rfl, rfl⟩
            · go_wp2_with fail
              go_meet
              exact ⟨by simp [hn], rfl⟩
          · go_wp2_with fail
            go_meet
            exact ⟨by simp [ha], rfl⟩
        case rest =>
          obtain ⟨rfl, hwc⟩ := hcut
          replace hwc := hwc.symm
          subst hwc
          go_upto_if 71 with fail
          go_cut [8] from 37 to 146 (fun v8 wx => v8 = .int .i64 n2 ∧ wx = w5)
          case first =>
            by_cases hc : a = 2 ∧ n = 0
            · have hd : decide (a = 2 ∧ n = 0) = true := decide_eq_true hc
              have hn2 : n2 = 1 := by rw [← HN2.out]; exact if_pos hc
              clear hc
              generalize decide (a = 2 ∧ n = 0) = q at *
              subst hd
              go_wp2_with fail
              go_meet
              exact ⟨by rw [hn2], rfl⟩
            · have hd : decide (a = 2 ∧ n = 0) = false := decide_eq_false hc
              have hn2 : n2 = n := by rw [← HN2.out]; exact if_neg hc
              clear hc
              generalize decide (a = 2 ∧ n = 0) = q at *
              subst hd
              subst hn2
              go_wp2_with fail
              go_meet
              exact ⟨rfl, rfl⟩
          case rest =>
            obtain ⟨rfl, hwc⟩ := hcut
            replace hwc := hwc.symm
            subst hwc
            clear HN2
            go_upto_region 16 with fail
            go_cut [106] from 37 to 146 (fun v106 wx => v106 = .bool false ∧ wx = w5)
            case first =>
              have hc4 := HNS.out.c4
              have hc5 := HNS.out.c5
              have hc3 := HNS.out.c3
              simp only at hc4 hc5 hc3
              rcases HNS.out.cmd with rfl | rfl | rfl | rfl
              · go_wp2_with fail
                go_meet
                exact ⟨rfl, rfl⟩
              · have hc := hc3 rfl
                have hq : ¬ H < n2 := by omega
                clear hc4 hc5 hc3
                go_wp2_with fail
                go_meet
                exact ⟨rfl, rfl⟩
              · obtain ⟨rfl, hc⟩ := hc4 rfl
                have hq : ¬ H < n2 := by omega
                clear hc4 hc5 hc3
                go_wp2_with fail
                go_meet
                exact ⟨rfl, rfl⟩
              · have hc := hc5 rfl
                have hq : ¬ n2 ≤ H := by omega
                clear hc4 hc5 hc3
                go_wp2_with fail
                go_meet
                exact ⟨rfl, rfl⟩
            case rest =>
              obtain ⟨rfl, hwc⟩ := hcut
              replace hwc := hwc.symm
              subst hwc
              go_upto_region 18 with fail
              go_cut [142] from 37 to 146 (fun v142 wx => v142 = .bool false ∧ wx = w5)
              case first =>
                have hr := HNS.out.r
                simp only at hr
                by_cases h3 : s1 = 3
                · subst h3
                  cases bl
                  · go_wp2_with fail
                    go_meet
                    exact ⟨rfl, rfl⟩
                  · by_cases h2 : dd = 2
                    · subst h2
                      go_wp2_with fail
                      go_meet
                      exact ⟨rfl, rfl⟩
                    · by_cases hH2 : n2 ≤ H
                      · obtain ⟨rfl, rfl⟩ := hr rfl rfl h2 hH2
                        clear hr
                        have hw : IntKind.i64.wrap (s5 + 1) = s5 + 1 := by rw [IntKind.wrap_i64]; omega
                        go_wp2_with fail
                        go_meet
                        exact ⟨rfl, rfl⟩
                      · clear hr
                        go_wp2_with fail
                        go_meet
                        exact ⟨rfl, rfl⟩
                · clear hr
                  go_wp2_with fail
                  go_meet
                  exact ⟨rfl, rfl⟩
              case rest =>
                obtain ⟨rfl, hwc⟩ := hcut
                replace hwc := hwc.symm
                subst hwc
                have hnx := HNS.out.nx
                simp only at hnx
                have HNX := Lib.hid hnx
                clear hnx
                by_cases ha : a = 0
                · subst ha
                  clear HNX HNS
                  go_wp2_with fail
                  refine (FN.out _).mono ?_
                  rintro e w6 ⟨rfl, hb6⟩
                  have HB6 := Lib.hid (HB5.out.next hb6)
                  clear c0_0 c0_1 c0_2 c0_3 c0_4 c1_0 c1_1 c1_2 c1_3 c1_4 c3_0 c3_1 c3_2 c3_3 c3_4 c3_5 c3_6 c3_7 c3_8 hb6 HB5
                  go_wp2_with fail
                  go_ret
                  exact ⟨rfl, HB6.out.below⟩
                · obtain ⟨hni, hnc⟩ := HNX.out ha
                  have HNI := Lib.hid hni
                  clear hni HNX HNS
                  subst hnc
                  go_wp2_with (with_reducible show wpList _ _ _ (Oper.mk _ (.store 25 _ _) _ _ _ _ :: _) _ _; refine Hid.out ?_)
                  refine Lib.hid ?_
                  refine wpList_put rfl 25 _ _ rfl (gs) #[.int .i64 a, .int .i64 b, .int .i64 c, .bool d, .int .i64 e] _ 25 rfl rfl HB5.out.r1 (by kernel_rfl) rfl (by kernel_rfl) ?_
                  intro w6 hr6 hg6
                  have HB6 : Hid (Bx w [(gt, .cells #[.int .i64 a, .int .i64 b, .int .i64 c, .bool d, .int .i64 e] 25 (0, 0)), (gs, .cells #[.int .i64 a, .int .i64 b, .int .i64 c, .bool d, .int .i64 e] 25 (0, 0)), (w.heap.size, .cells #[.int .u8 x, .int .u8 y] 41 (0, 0)), (w.heap.size + 1, .cells #[.int .i64 0, .int .i64 0, .int .i64 0, .int .i64 0, .int .i64 0, .int .i64 3, .int .i64 dw, .int .i64 H, .int .i64 0] 23 (0, 0))] w6) := Lib.hid (HB5.out.put (by omega) hg6.out hr6.out (by simp only [List.mem_cons, List.not_mem_nil, or_false]; rintro p (rfl | rfl | rfl | rfl) <;> simp <;> omega))
                  clear c0_0 c0_1 c0_2 c0_3 c0_4 c1_0 c1_1 c1_2 c1_3 c1_4 c3_0 c3_1 c3_2 c3_3 c3_4 c3_5 c3_6 c3_7 c3_8 hr6 hg6 HB5
                  go_wp2_with fail
                  go_roundw
                  case rel => exact ⟨⟨a, b, c, d, e⟩, i + 1, rfl, by go_num, by omega, by rw [Int.natCast_add]; exact HNI.out, (HB6.out.less (by simp only [List.mem_cons, List.not_mem_nil, or_false]; rintro p (rfl | rfl | rfl) <;> simp))⟩
                  case measure => simp [intOf]; omega
    · have hlti : ¬ (i : Int) < (l.length : Int) := by omega
      have hltB : decide ((i : Int) < (l.length : Int)) = false := decide_eq_false hlti
      go_wp2_with fail
      refine (FN.out _).mono ?_
      rintro e w81 ⟨rfl, hb81⟩
      have HB81 := Lib.hid (HBR.out.next hb81)
      clear hb81 HBR
      go_wp2_with fail
      go_ret
      exact ⟨rfl, HB81.out.below⟩
set_option maxRecDepth 100000 in
theorem lawDoorNudges_lifted (os : Os) (started : os.Started) (H : Type) (enc : TypeId × Value → H) :
    ReturnsInHanded {} Try.checked os 6 .any (Rows.doorNudgesSpec.pre6 enc Try.prog Try.f6 Rows.doorNudgesRow.domain false) (Rows.doorNudgesSpec.post enc Try.prog Try.f6 false true false false) := by
  refine returnsInHanded_of_change (C := Try.checked) own started (by kernel_rfl) Try.func6
    (ChangeSpec.witness6 (enc := enc) (C := Try.checked) false ⟨#[], #[.agg #[.int .u8 0, .int .u8 0], .slice none 0 0], []⟩ 8 (by kernel_rfl) (by kernel_rfl) (by kernel_rfl) (by kernel_rfl)) ?_
  intro W base args ds gs before hval0 hW hcnd _
  have hval : ∀ (j : Nat) t v, Try.f6.params[j]? = some t → args[j]? = some v → Value.okWide Try.prog W .any base t v := hval0
  have hW' := hW
  obtain ⟨p, q, hA0, hV, rfl, hfz, hnd⟩ := hW
  have hA : DataW.TrodAll enc Try.prog W 0 (fun _ => true) true Try.f6.params.toList args.toList ds p := hA0
  rw [Try.params6] at hA hval
  obtain ⟨v0, vs0, d0, ds0, p0, q0, hargs, rfl, rfl, h0, r0⟩ := trodAll_cons hA
  obtain ⟨v1, vs1, d1, ds1, p1, q1, rfl, rfl, rfl, h1, r1⟩ := trodAll_cons r0
  obtain ⟨rfl, rfl, rfl⟩ := trodAll_nil r1
  obtain rfl : args = #[v0, v1] := by cases args; simp_all
  obtain ⟨rfl, rfl⟩ := trodVars_none hV
  have k0 := h0
  have lt0 : ∀ x ∈ p0, x.block < W.heap.size := by obtain ⟨m, hm⟩ := k0; exact DataW.trod_lt m _ _ _ hm
  obtain ⟨x0, y0, rfl, g0⟩ := open_au8_2 (hval 0 41 v0 rfl rfl) h0
  have k1 := h1
  have lt1 : ∀ x ∈ p1, x.block < W.heap.size := by obtain ⟨m, hm⟩ := k1; exact DataW.trod_lt m _ _ _ hm
  obtain ⟨a1, l1, c1, rfl⟩ := okWide_slice Try.underlying35 (hval 1 35 v1 rfl rfl)
  obtain ⟨fuel1, hf1⟩ := h1
  obtain ⟨x1, g1, m1⟩ := open_tks hf1
  clear hA0 hval0
  refine (lawDoorNudges_walk x0 y0 _ x1 W g0 g1 m1).mono fun e W' ⟨he, bel⟩ => ?_
  subst he
  exact ⟨_, rfl, _, _, _, [], _, [], hW', trodAll_mk1 (shut_bool Try.underlying4 _), (trodAll_cons_mk (Below.trod laidOut (by kernel_rfl) (of_decide_eq_true (by kernel_rfl)) k0 bel lt0) (trodAll_cons_mk (Below.trod laidOut (by kernel_rfl) (of_decide_eq_true (by kernel_rfl)) k1 bel lt1) trodAll_mk0)), rfl, bel.frame _, fun h => by cases h⟩

theorem lawDoorNudges_over : Rows.doorNudgesRow.holds Try.pinned (OpenSpec.ofChange Rows.doorNudgesSpec) :=
  OpenClaim.holds_of_wide 6 Try.f6 rfl rfl rfl rfl rfl rfl rfl ⟨rfl, rfl, rfl, rfl, rfl⟩ rfl rfl rfl rfl rfl (by kernel_rfl) Try.func6 (by kernel_rfl)
    (of_decide_eq_true (by kernel_rfl)) (by unfold Func.isWrapper; first | (rw [if_pos (by decide +kernel)]; kernel_rfl) | (rw [if_neg (by decide +kernel)]; exact ⟨rfl, rfl⟩))
    (fun os started H enc _ => lawDoorNudges_lifted os started H enc)

theorem doorNudges_holds : Rows.DoorNudgesSaid := lawDoorNudges_over
#print axioms doorNudges_holds
end Go.Proofs.Ythniolaeicmjlaa
