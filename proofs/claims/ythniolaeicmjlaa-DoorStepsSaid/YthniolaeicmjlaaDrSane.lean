/- sane() of stage 12. No statement of the seat is proved here. -/
import Derived.Test.YthniolaeicmjlaaDrLits
import Derived.Test.YthniolaeicmjlaaDrState
namespace Go.Proofs.Ythniolaeicmjlaa
open Go.RowKit

namespace Dr
def sanS (k : Nat) : Dr := [(⟨1, 0, 0, false, 0⟩ : Dr), ⟨2, 0, 1, false, 0⟩, ⟨2, 1, 2, false, 0⟩, ⟨2, 2, 3, false, 0⟩, ⟨3, 0, 4, false, 0⟩, ⟨3, 1, 5, false, 0⟩, zero].getD k zero
def sanC (k : Nat) : Int := [(0 : Int), 0, 0, 4, 4, 0].getD k 0
def sanD (k : Nat) : Int := [(1 : Int), 1, 1, 1, 0, 2].getD k 0
theorem san_step : ∀ k : Fin 6, stepF 3 10 (sanS k.val) (sanD k.val) false false = (sanS (k.val + 1), sanC k.val) := by decide
end Dr
set_option maxHeartbeats 4000000 in
theorem sane12_any (w : World) : Calls Try.prog 15 #[] w fun e w' => e = .returned (.bool true) ∧ Below w.heap.size w w' := by
  have F0 := Lib.hid (fun wx => step_to 0 0 0 0 0 2 3 10 0 0 0 0 false 0 2 false true 1 0 0 false 0 3 wx (by decide))
  have FI := Lib.hid (fun wx => isState_any 0 1 0 false 0 wx)
  rw [show Dr.isB ⟨0, 1, 0, false, 0⟩ = false by decide] at FI
  have eqz := eqlDr 0 0 0 false 0 0 0 0 false 0
  rw [show Dr.same ⟨0, 0, 0, false, 0⟩ ⟨0, 0, 0, false, 0⟩ = true by decide] at eqz
  have HB0 : Hid (Bx w [] w) := Lib.hid ⟨Below.refl _ _, fun p hp => by simp at hp⟩
  go_enter Try.func15, Try.ntmps15
  go_wp2_with (with_reducible show wpList _ _ _ (Oper.mk _ (.store 23 _ _) _ _ _ _ :: _) _ _; refine Hid.out ?_)
  refine Lib.hid ?_
  refine wpList_put rfl 23 _ _ rfl w.heap.size #[.int .i64 0, .int .i64 0, .int .i64 0, .int .i64 0, .int .i64 0, .int .i64 2, .int .i64 3, .int .i64 10, .int .i64 0] _ 23 rfl rfl (heap_alloc_new w _) (by kernel_rfl) rfl (by kernel_rfl) ?_
  intro w1 hr1 hg1
  have HB1 : Hid (Bx w [(w.heap.size, .cells #[.int .i64 0, .int .i64 0, .int .i64 0, .int .i64 0, .int .i64 0, .int .i64 2, .int .i64 3, .int .i64 10, .int .i64 0] 23 (0, 0))] w1) := Lib.hid ((HB0.out.make (heap_alloc_new w (.cells #[.int .i64 0, .int .i64 0, .int .i64 0, .int .i64 0, .int .i64 0, .int .i64 0, .int .i64 0, .int .i64 0, .int .i64 0] 23)) ((Below.refl w.heap.size w).alloc (Nat.le_refl _) _)).put HB0.out.below.size hg1.out hr1.out (by simp only [List.mem_cons, List.not_mem_nil, or_false]; rintro p rfl <;> simp <;> omega))
  clear hr1 hg1 HB0
  have c0_0 : w1.cell? ⟨w.heap.size, 0, none⟩ = some (.int .i64 0) := cell_of_row _ _ _ _ _ (0, 0) HB1.out.r0
  have c0_1 : w1.cell? ⟨w.heap.size, 1, none⟩ = some (.int .i64 0) := cell_of_row _ _ _ _ _ (0, 0) HB1.out.r0
  have c0_2 : w1.cell? ⟨w.heap.size, 2, none⟩ = some (.int .i64 0) := cell_of_row _ _ _ _ _ (0, 0) HB1.out.r0
  have c0_3 : w1.cell? ⟨w.heap.size, 3, none⟩ = some (.int .i64 0) := cell_of_row _ _ _ _ _ (0, 0) HB1.out.r0
  have c0_4 : w1.cell? ⟨w.heap.size, 4, none⟩ = some (.int .i64 0) := cell_of_row _ _ _ _ _ (0, 0) HB1.out.r0
  have c0_5 : w1.cell? ⟨w.heap.size, 5, none⟩ = some (.int .i64 2) := cell_of_row _ _ _ _ _ (0, 0) HB1.out.r0
  have c0_6 : w1.cell? ⟨w.heap.size, 6, none⟩ = some (.int .i64 3) := cell_of_row _ _ _ _ _ (0, 0) HB1.out.r0
  have c0_7 : w1.cell? ⟨w.heap.size, 7, none⟩ = some (.int .i64 10) := cell_of_row _ _ _ _ _ (0, 0) HB1.out.r0
  have c0_8 : w1.cell? ⟨w.heap.size, 8, none⟩ = some (.int .i64 0) := cell_of_row _ _ _ _ _ (0, 0) HB1.out.r0
  go_wp2_with fail
  refine (F0.out _).mono ?_
  rintro e w2 ⟨rfl, hb2⟩
  have HB2 := Lib.hid (HB1.out.next hb2)
  clear c0_0 c0_1 c0_2 c0_3 c0_4 c0_5 c0_6 c0_7 c0_8 hb2 HB1
  have c0_0 : w2.cell? ⟨w.heap.size, 0, none⟩ = some (.int .i64 0) := cell_of_row _ _ _ _ _ (0, 0) HB2.out.r0
  have c0_1 : w2.cell? ⟨w.heap.size, 1, none⟩ = some (.int .i64 0) := cell_of_row _ _ _ _ _ (0, 0) HB2.out.r0
  have c0_2 : w2.cell? ⟨w.heap.size, 2, none⟩ = some (.int .i64 0) := cell_of_row _ _ _ _ _ (0, 0) HB2.out.r0
  have c0_3 : w2.cell? ⟨w.heap.size, 3, none⟩ = some (.int .i64 0) := cell_of_row _ _ _ _ _ (0, 0) HB2.out.r0
  have c0_4 : w2.cell? ⟨w.heap.size, 4, none⟩ = some (.int .i64 0) := cell_of_row _ _ _ _ _ (0, 0) HB2.out.r0
  have c0_5 : w2.cell? ⟨w.heap.size, 5, none⟩ = some (.int .i64 2) := cell_of_row _ _ _ _ _ (0, 0) HB2.out.r0
  have c0_6 : w2.cell? ⟨w.heap.size, 6, none⟩ = some (.int .i64 3) := cell_of_row _ _ _ _ _ (0, 0) HB2.out.r0
  have c0_7 : w2.cell? ⟨w.heap.size, 7, none⟩ = some (.int .i64 10) := cell_of_row _ _ _ _ _ (0, 0) HB2.out.r0
  have c0_8 : w2.cell? ⟨w.heap.size, 8, none⟩ = some (.int .i64 0) := cell_of_row _ _ _ _ _ (0, 0) HB2.out.r0
  go_wp2_with (with_reducible show wpList _ _ _ (Oper.mk _ (.store 25 _ _) _ _ _ _ :: _) _ _; refine Hid.out ?_)
  refine Lib.hid ?_
  have l3_0 : w.heap.size < w2.heap.size := (Array.getElem?_eq_some_iff.1 HB2.out.r0).1
  have lw3 : w.heap.size ≤ w2.heap.size := HB2.out.below.size
  refine wpList_put rfl 25 _ _ rfl w2.heap.size #[.int .i64 1, .int .i64 0, .int .i64 0, .bool false, .int .i64 0] _ 25 rfl rfl (heap_alloc_new w2 _) (by kernel_rfl) rfl (by kernel_rfl) ?_
  intro w3 hr3 hg3
  have HB3 : Hid (Bx w [(w2.heap.size, .cells #[.int .i64 1, .int .i64 0, .int .i64 0, .bool false, .int .i64 0] 25 (0, 0)), (w.heap.size, .cells #[.int .i64 0, .int .i64 0, .int .i64 0, .int .i64 0, .int .i64 0, .int .i64 2, .int .i64 3, .int .i64 10, .int .i64 0] 23 (0, 0))] w3) := Lib.hid ((HB2.out.make (heap_alloc_new w2 (.cells #[.int .i64 0, .int .i64 0, .int .i64 0, .bool false, .int .i64 0] 25)) ((Below.refl w2.heap.size w2).alloc (Nat.le_refl _) _)).put HB2.out.below.size hg3.out hr3.out (by simp only [List.mem_cons, List.not_mem_nil, or_false]; rintro p (rfl | rfl) <;> simp <;> omega))
  clear c0_0 c0_1 c0_2 c0_3 c0_4 c0_5 c0_6 c0_7 c0_8 hr3 hg3 HB2
  generalize w2.heap.size = gs at *
  have c0_0 : w3.cell? ⟨gs, 0, none⟩ = some (.int .i64 1) := cell_of_row _ _ _ _ _ (0, 0) HB3.out.r0
  have c0_1 : w3.cell? ⟨gs, 1, none⟩ = some (.int .i64 0) := cell_of_row _ _ _ _ _ (0, 0) HB3.out.r0
  have c0_2 : w3.cell? ⟨gs, 2, none⟩ = some (.int .i64 0) := cell_of_row _ _ _ _ _ (0, 0) HB3.out.r0
  have c0_3 : w3.cell? ⟨gs, 3, none⟩ = some (.bool false) := cell_of_row _ _ _ _ _ (0, 0) HB3.out.r0
  have c0_4 : w3.cell? ⟨gs, 4, none⟩ = some (.int .i64 0) := cell_of_row _ _ _ _ _ (0, 0) HB3.out.r0
  have c1_0 : w3.cell? ⟨w.heap.size, 0, none⟩ = some (.int .i64 0) := cell_of_row _ _ _ _ _ (0, 0) HB3.out.r1
  have c1_1 : w3.cell? ⟨w.heap.size, 1, none⟩ = some (.int .i64 0) := cell_of_row _ _ _ _ _ (0, 0) HB3.out.r1
  have c1_2 : w3.cell? ⟨w.heap.size, 2, none⟩ = some (.int .i64 0) := cell_of_row _ _ _ _ _ (0, 0) HB3.out.r1
  have c1_3 : w3.cell? ⟨w.heap.size, 3, none⟩ = some (.int .i64 0) := cell_of_row _ _ _ _ _ (0, 0) HB3.out.r1
  have c1_4 : w3.cell? ⟨w.heap.size, 4, none⟩ = some (.int .i64 0) := cell_of_row _ _ _ _ _ (0, 0) HB3.out.r1
  have c1_5 : w3.cell? ⟨w.heap.size, 5, none⟩ = some (.int .i64 2) := cell_of_row _ _ _ _ _ (0, 0) HB3.out.r1
  have c1_6 : w3.cell? ⟨w.heap.size, 6, none⟩ = some (.int .i64 3) := cell_of_row _ _ _ _ _ (0, 0) HB3.out.r1
  have c1_7 : w3.cell? ⟨w.heap.size, 7, none⟩ = some (.int .i64 10) := cell_of_row _ _ _ _ _ (0, 0) HB3.out.r1
  have c1_8 : w3.cell? ⟨w.heap.size, 8, none⟩ = some (.int .i64 0) := cell_of_row _ _ _ _ _ (0, 0) HB3.out.r1
  go_wp2_with (with_reducible show wpList _ _ _ (Oper.mk _ (.buildSlice _ _ _) _ _ _ _ :: _) _ _; refine wpList_ints6 rfl rfl ?_; refine Hid.out ?_)
  refine Lib.hid ?_
  have l4_0 : gs < w3.heap.size := (Array.getElem?_eq_some_iff.1 HB3.out.r0).1
  have l4_1 : w.heap.size < w3.heap.size := (Array.getElem?_eq_some_iff.1 HB3.out.r1).1
  have lw4 : w.heap.size ≤ w3.heap.size := HB3.out.below.size
  have HB4 := Lib.hid (HB3.out.make (heap_alloc_new w3 (.cells #[.int .i64 0, .int .i64 0, .int .i64 0, .int .i64 4, .int .i64 4, .int .i64 0] 3)) ((Below.refl w3.heap.size w3).alloc (Nat.le_refl _) _))
  generalize w3.alloc (.cells #[.int .i64 0, .int .i64 0, .int .i64 0, .int .i64 4, .int .i64 4, .int .i64 0] 3) = w4 at *
  clear c0_0 c0_1 c0_2 c0_3 c0_4 c1_0 c1_1 c1_2 c1_3 c1_4 c1_5 c1_6 c1_7 c1_8 HB3
  generalize w3.heap.size = gw at *
  have c0_0 : w4.cell? ⟨gw, 0, none⟩ = some (.int .i64 0) := cell_of_row _ _ _ _ _ (0, 0) HB4.out.r0
  have c0_1 : w4.cell? ⟨gw, 1, none⟩ = some (.int .i64 0) := cell_of_row _ _ _ _ _ (0, 0) HB4.out.r0
  have c0_2 : w4.cell? ⟨gw, 2, none⟩ = some (.int .i64 0) := cell_of_row _ _ _ _ _ (0, 0) HB4.out.r0
  have c0_3 : w4.cell? ⟨gw, 3, none⟩ = some (.int .i64 4) := cell_of_row _ _ _ _ _ (0, 0) HB4.out.r0
  have c0_4 : w4.cell? ⟨gw, 4, none⟩ = some (.int .i64 4) := cell_of_row _ _ _ _ _ (0, 0) HB4.out.r0
  have c0_5 : w4.cell? ⟨gw, 5, none⟩ = some (.int .i64 0) := cell_of_row _ _ _ _ _ (0, 0) HB4.out.r0
  have c1_0 : w4.cell? ⟨gs, 0, none⟩ = some (.int .i64 1) := cell_of_row _ _ _ _ _ (0, 0) HB4.out.r1
  have c1_1 : w4.cell? ⟨gs, 1, none⟩ = some (.int .i64 0) := cell_of_row _ _ _ _ _ (0, 0) HB4.out.r1
  have c1_2 : w4.cell? ⟨gs, 2, none⟩ = some (.int .i64 0) := cell_of_row _ _ _ _ _ (0, 0) HB4.out.r1
  have c1_3 : w4.cell? ⟨gs, 3, none⟩ = some (.bool false) := cell_of_row _ _ _ _ _ (0, 0) HB4.out.r1
  have c1_4 : w4.cell? ⟨gs, 4, none⟩ = some (.int .i64 0) := cell_of_row _ _ _ _ _ (0, 0) HB4.out.r1
  have c2_0 : w4.cell? ⟨w.heap.size, 0, none⟩ = some (.int .i64 0) := cell_of_row _ _ _ _ _ (0, 0) HB4.out.r2
  have c2_1 : w4.cell? ⟨w.heap.size, 1, none⟩ = some (.int .i64 0) := cell_of_row _ _ _ _ _ (0, 0) HB4.out.r2
  have c2_2 : w4.cell? ⟨w.heap.size, 2, none⟩ = some (.int .i64 0) := cell_of_row _ _ _ _ _ (0, 0) HB4.out.r2
  have c2_3 : w4.cell? ⟨w.heap.size, 3, none⟩ = some (.int .i64 0) := cell_of_row _ _ _ _ _ (0, 0) HB4.out.r2
  have c2_4 : w4.cell? ⟨w.heap.size, 4, none⟩ = some (.int .i64 0) := cell_of_row _ _ _ _ _ (0, 0) HB4.out.r2
  have c2_5 : w4.cell? ⟨w.heap.size, 5, none⟩ = some (.int .i64 2) := cell_of_row _ _ _ _ _ (0, 0) HB4.out.r2
  have c2_6 : w4.cell? ⟨w.heap.size, 6, none⟩ = some (.int .i64 3) := cell_of_row _ _ _ _ _ (0, 0) HB4.out.r2
  have c2_7 : w4.cell? ⟨w.heap.size, 7, none⟩ = some (.int .i64 10) := cell_of_row _ _ _ _ _ (0, 0) HB4.out.r2
  have c2_8 : w4.cell? ⟨w.heap.size, 8, none⟩ = some (.int .i64 0) := cell_of_row _ _ _ _ _ (0, 0) HB4.out.r2
  go_wp2_with (with_reducible show wpList _ _ _ (Oper.mk _ (.buildSlice _ _ _) _ _ _ _ :: _) _ _; refine wpList_ints6 rfl rfl ?_; refine Hid.out ?_)
  refine Lib.hid ?_
  have l5_0 : gw < w4.heap.size := (Array.getElem?_eq_some_iff.1 HB4.out.r0).1
  have l5_1 : gs < w4.heap.size := (Array.getElem?_eq_some_iff.1 HB4.out.r1).1
  have l5_2 : w.heap.size < w4.heap.size := (Array.getElem?_eq_some_iff.1 HB4.out.r2).1
  have lw5 : w.heap.size ≤ w4.heap.size := HB4.out.below.size
  have HB5 := Lib.hid (HB4.out.make (heap_alloc_new w4 (.cells #[.int .i64 1, .int .i64 1, .int .i64 1, .int .i64 1, .int .i64 0, .int .i64 2] 3)) ((Below.refl w4.heap.size w4).alloc (Nat.le_refl _) _))
  generalize w4.alloc (.cells #[.int .i64 1, .int .i64 1, .int .i64 1, .int .i64 1, .int .i64 0, .int .i64 2] 3) = w5 at *
  clear c0_0 c0_1 c0_2 c0_3 c0_4 c0_5 c1_0 c1_1 c1_2 c1_3 c1_4 c2_0 c2_1 c2_2 c2_3 c2_4 c2_5 c2_6 c2_7 c2_8 HB4
  generalize w4.heap.size = gd at *
  go_wp2_with fail
  go_loopw [3, 6] (fun vc vi wr => ∃ (k : Nat) (z : Int), k ≤ 6 ∧ vc = .int .i64 z ∧ vi = .int .i64 k ∧ Bx w [(gd, .cells #[.int .i64 1, .int .i64 1, .int .i64 1, .int .i64 1, .int .i64 0, .int .i64 2] 3 (0, 0)), (gw, .cells #[.int .i64 0, .int .i64 0, .int .i64 0, .int .i64 4, .int .i64 4, .int .i64 0] 3 (0, 0)), (gs, .cells #[.int .i64 (Dr.sanS k).st, .int .i64 (Dr.sanS k).ti, .int .i64 (Dr.sanS k).si, .bool (Dr.sanS k).nu, .int .i64 (Dr.sanS k).cy] 25 (0, 0)), (w.heap.size, .cells #[.int .i64 0, .int .i64 0, .int .i64 0, .int .i64 0, .int .i64 0, .int .i64 2, .int .i64 3, .int .i64 10, .int .i64 0] 23 (0, 0))] wr) (fun _ vi _ => 6 - (intOf vi).toNat)
  case atStart => exact ⟨0, 3, by omega, rfl, rfl, HB5.out⟩
  case round =>
    obtain ⟨k, z, hk, rfl, rfl, hbr⟩ := hrel
    have HBR := Lib.hid hbr
    clear hbr HB5
    by_cases hlt : k < 6
    · have hst := Dr.san_step ⟨k, hlt⟩
      simp only at hst
      have hcw : (#[.int .i64 0, .int .i64 0, .int .i64 0, .int .i64 4, .int .i64 4, .int .i64 0] : Array Value)[k]? = some (.int .i64 (Dr.sanC k)) := by
        rcases (show k = 0 ∨ k = 1 ∨ k = 2 ∨ k = 3 ∨ k = 4 ∨ k = 5 by omega) with rfl | rfl | rfl | rfl | rfl | rfl <;> rfl
      have hcd : (#[.int .i64 1, .int .i64 1, .int .i64 1, .int .i64 1, .int .i64 0, .int .i64 2] : Array Value)[k]? = some (.int .i64 (Dr.sanD k)) := by
        rcases (show k = 0 ∨ k = 1 ∨ k = 2 ∨ k = 3 ∨ k = 4 ∨ k = 5 by omega) with rfl | rfl | rfl | rfl | rfl | rfl <;> rfl
      have hne : Dr.sanC k = Dr.sanC k := rfl
      generalize hs1 : Dr.sanS (k + 1) = s1 at hst
      generalize Dr.sanS k = s0 at *
      generalize Dr.sanD k = dk at *
      generalize Dr.sanC k = ck at *
      obtain ⟨a, b, c, d, e⟩ := s0
      obtain ⟨a', b', c', d', e'⟩ := s1
      have FS := Lib.hid (fun wx => step_to 0 0 0 0 0 2 3 10 0 a b c d e dk false false a' b' c' d' e' ck wx hst)
      have HS1 := Lib.hid hs1
      have HCW := Lib.hid hcw
      have HCD := Lib.hid hcd
      clear hst hs1 hcw hcd hne
      simp only at HBR
      have hkz : decide ((k : Int) < 6) = true := decide_eq_true (by omega)
      have hki : (k : Int) < 6 := by omega
      have hsz := HBR.out.below.size
      have l_gs : w.heap.size ≤ gs := by omega
      have HBR2 : Hid (Bx w [(gd, .cells #[.int .i64 1, .int .i64 1, .int .i64 1, .int .i64 1, .int .i64 0, .int .i64 2] 3 (0, 0)), (gw, .cells #[.int .i64 0, .int .i64 0, .int .i64 0, .int .i64 4, .int .i64 4, .int .i64 0] 3 (0, 0)), (gs, .cells #[.int .i64 a, .int .i64 b, .int .i64 c, .bool d, .int .i64 e] 25 (0, 0)), (w.heap.size, .cells #[.int .i64 0, .int .i64 0, .int .i64 0, .int .i64 0, .int .i64 0, .int .i64 2, .int .i64 3, .int .i64 10, .int .i64 0] 23 (0, 0))] wr) := HBR
      clear HBR
      go_wp2_with fail
      have q0 : gd < wr.heap.size := (Array.getElem?_eq_some_iff.1 HBR2.out.r0).1
      have q1 : gw < wr.heap.size := (Array.getElem?_eq_some_iff.1 HBR2.out.r1).1
      have q2 : gs < wr.heap.size := (Array.getElem?_eq_some_iff.1 HBR2.out.r2).1
      have q3 : w.heap.size < wr.heap.size := (Array.getElem?_eq_some_iff.1 HBR2.out.r3).1
      refine Chain.chain (fun p wx => Put (wr) (gs) (.cells (if p = 0 then #[.int .i64 a, .int .i64 b, .int .i64 c, .bool d, .int .i64 e] else #[.int .i64 a', .int .i64 b', .int .i64 c', .bool d', .int .i64 e']) 25 (0, 0)) wx) (fun _ _ => False) [10] (by kernel_rfl) (by kernel_rfl) (fun _ _ _ _ h => h.elim) ((Put.start HBR2.out.r2).drew) ?_
      (first
          | (apply Chain.walk_quiet (by rfl) (by decide)
             (intro p wx hp hwn hx K hK
              have z3_0 : wx.cell? ⟨w.heap.size, 0, none⟩ = some (.int .i64 0) := cell_of_row _ _ _ _ _ (0, 0) ((hx.other (w.heap.size) q3 (by omega)).trans HBR2.out.r3)
              have z3_1 : wx.cell? ⟨w.heap.size, 1, none⟩ = some (.int .i64 0) := cell_of_row _ _ _ _ _ (0, 0) ((hx.other (w.heap.size) q3 (by omega)).trans HBR2.out.r3)
              have z3_2 : wx.cell? ⟨w.heap.size, 2, none⟩ = some (.int .i64 0) := cell_of_row _ _ _ _ _ (0, 0) ((hx.other (w.heap.size) q3 (by omega)).trans HBR2.out.r3)
              have z3_3 : wx.cell? ⟨w.heap.size, 3, none⟩ = some (.int .i64 0) := cell_of_row _ _ _ _ _ (0, 0) ((hx.other (w.heap.size) q3 (by omega)).trans HBR2.out.r3)
              have z3_4 : wx.cell? ⟨w.heap.size, 4, none⟩ = some (.int .i64 0) := cell_of_row _ _ _ _ _ (0, 0) ((hx.other (w.heap.size) q3 (by omega)).trans HBR2.out.r3)
              have z3_5 : wx.cell? ⟨w.heap.size, 5, none⟩ = some (.int .i64 2) := cell_of_row _ _ _ _ _ (0, 0) ((hx.other (w.heap.size) q3 (by omega)).trans HBR2.out.r3)
              have z3_6 : wx.cell? ⟨w.heap.size, 6, none⟩ = some (.int .i64 3) := cell_of_row _ _ _ _ _ (0, 0) ((hx.other (w.heap.size) q3 (by omega)).trans HBR2.out.r3)
              have z3_7 : wx.cell? ⟨w.heap.size, 7, none⟩ = some (.int .i64 10) := cell_of_row _ _ _ _ _ (0, 0) ((hx.other (w.heap.size) q3 (by omega)).trans HBR2.out.r3)
              have z3_8 : wx.cell? ⟨w.heap.size, 8, none⟩ = some (.int .i64 0) := cell_of_row _ _ _ _ _ (0, 0) ((hx.other (w.heap.size) q3 (by omega)).trans HBR2.out.r3)
              have zd : wx.cell? ⟨gd, 0 + k, none⟩ = some (.int .i64 dk) := by rw [Nat.zero_add]; exact (cell_of_row _ _ _ _ _ (0, 0) ((hx.other gd q0 (by omega)).trans HBR2.out.r0)).trans HCD.out
              rw [Nat.zero_add] at zd
              first
                | (go_simp
                   first
                    | (go_at_call 7; with_reducible refine (FS.out _).mono ?_; rintro e x1 ⟨rfl, hb⟩; exact hK _ (hx.next hb))
                    | (go_at_K; exact hK _ hx)))
             exact ⟨_, rfl⟩)
          | (refine Chain.walk_no (by rfl) (by decide) ?_; simp only [Act.put, List.setIfInBounds_toArray, List.set_cons_succ, List.set_cons_zero]))
      (first
          | (apply Chain.walk_quiet (by rfl) (by decide)
             (intro p wx hp hwn hx K hK
              obtain rfl : p = 0 := (by rcases Nat.lt_or_ge p 1 with h | h; exact Nat.lt_one_iff.1 h; obtain rfl : p = 1 := Nat.le_antisymm hp h; exact absurd ((Eq.symm (show _ = false by kernel_rfl)).trans hwn) Bool.false_ne_true)
              have hx0 : Put wr (gs) (.cells #[.int .i64 a, .int .i64 b, .int .i64 c, .bool d, .int .i64 e] 25 (0, 0)) wx := hx
              have z2_0 : wx.cell? ⟨gs, 0, none⟩ = some (.int .i64 a) := cell_of_row _ _ _ _ _ (0, 0) hx0.row
              have z2_1 : wx.cell? ⟨gs, 1, none⟩ = some (.int .i64 b) := cell_of_row _ _ _ _ _ (0, 0) hx0.row
              have z2_2 : wx.cell? ⟨gs, 2, none⟩ = some (.int .i64 c) := cell_of_row _ _ _ _ _ (0, 0) hx0.row
              have z2_3 : wx.cell? ⟨gs, 3, none⟩ = some (.bool d) := cell_of_row _ _ _ _ _ (0, 0) hx0.row
              have z2_4 : wx.cell? ⟨gs, 4, none⟩ = some (.int .i64 e) := cell_of_row _ _ _ _ _ (0, 0) hx0.row
              have z3_0 : wx.cell? ⟨w.heap.size, 0, none⟩ = some (.int .i64 0) := cell_of_row _ _ _ _ _ (0, 0) ((hx.other (w.heap.size) q3 (by omega)).trans HBR2.out.r3)
              have z3_1 : wx.cell? ⟨w.heap.size, 1, none⟩ = some (.int .i64 0) := cell_of_row _ _ _ _ _ (0, 0) ((hx.other (w.heap.size) q3 (by omega)).trans HBR2.out.r3)
              have z3_2 : wx.cell? ⟨w.heap.size, 2, none⟩ = some (.int .i64 0) := cell_of_row _ _ _ _ _ (0, 0) ((hx.other (w.heap.size) q3 (by omega)).trans HBR2.out.r3)
              have z3_3 : wx.cell? ⟨w.heap.size, 3, none⟩ = some (.int .i64 0) := cell_of_row _ _ _ _ _ (0, 0) ((hx.other (w.heap.size) q3 (by omega)).trans HBR2.out.r3)
              have z3_4 : wx.cell? ⟨w.heap.size, 4, none⟩ = some (.int .i64 0) := cell_of_row _ _ _ _ _ (0, 0) ((hx.other (w.heap.size) q3 (by omega)).trans HBR2.out.r3)
              have z3_5 : wx.cell? ⟨w.heap.size, 5, none⟩ = some (.int .i64 2) := cell_of_row _ _ _ _ _ (0, 0) ((hx.other (w.heap.size) q3 (by omega)).trans HBR2.out.r3)
              have z3_6 : wx.cell? ⟨w.heap.size, 6, none⟩ = some (.int .i64 3) := cell_of_row _ _ _ _ _ (0, 0) ((hx.other (w.heap.size) q3 (by omega)).trans HBR2.out.r3)
              have z3_7 : wx.cell? ⟨w.heap.size, 7, none⟩ = some (.int .i64 10) := cell_of_row _ _ _ _ _ (0, 0) ((hx.other (w.heap.size) q3 (by omega)).trans HBR2.out.r3)
              have z3_8 : wx.cell? ⟨w.heap.size, 8, none⟩ = some (.int .i64 0) := cell_of_row _ _ _ _ _ (0, 0) ((hx.other (w.heap.size) q3 (by omega)).trans HBR2.out.r3)
              have zd : wx.cell? ⟨gd, 0 + k, none⟩ = some (.int .i64 dk) := by rw [Nat.zero_add]; exact (cell_of_row _ _ _ _ _ (0, 0) ((hx.other gd q0 (by omega)).trans HBR2.out.r0)).trans HCD.out
              rw [Nat.zero_add] at zd
              first
                | (go_simp
                   first
                    | (go_at_call 7; with_reducible refine (FS.out _).mono ?_; rintro e x1 ⟨rfl, hb⟩; exact hK _ (hx.next hb))
                    | (go_at_K; exact hK _ hx)))
             exact ⟨_, rfl⟩)
          | (refine Chain.walk_no (by rfl) (by decide) ?_; simp only [Act.put, List.setIfInBounds_toArray, List.set_cons_succ, List.set_cons_zero]))
      (first
          | (apply Chain.walk_quiet (by rfl) (by decide)
             (intro p wx hp hwn hx K hK
              have z3_0 : wx.cell? ⟨w.heap.size, 0, none⟩ = some (.int .i64 0) := cell_of_row _ _ _ _ _ (0, 0) ((hx.other (w.heap.size) q3 (by omega)).trans HBR2.out.r3)
              have z3_1 : wx.cell? ⟨w.heap.size, 1, none⟩ = some (.int .i64 0) := cell_of_row _ _ _ _ _ (0, 0) ((hx.other (w.heap.size) q3 (by omega)).trans HBR2.out.r3)
              have z3_2 : wx.cell? ⟨w.heap.size, 2, none⟩ = some (.int .i64 0) := cell_of_row _ _ _ _ _ (0, 0) ((hx.other (w.heap.size) q3 (by omega)).trans HBR2.out.r3)
              have z3_3 : wx.cell? ⟨w.heap.size, 3, none⟩ = some (.int .i64 0) := cell_of_row _ _ _ _ _ (0, 0) ((hx.other (w.heap.size) q3 (by omega)).trans HBR2.out.r3)
              have z3_4 : wx.cell? ⟨w.heap.size, 4, none⟩ = some (.int .i64 0) := cell_of_row _ _ _ _ _ (0, 0) ((hx.other (w.heap.size) q3 (by omega)).trans HBR2.out.r3)
              have z3_5 : wx.cell? ⟨w.heap.size, 5, none⟩ = some (.int .i64 2) := cell_of_row _ _ _ _ _ (0, 0) ((hx.other (w.heap.size) q3 (by omega)).trans HBR2.out.r3)
              have z3_6 : wx.cell? ⟨w.heap.size, 6, none⟩ = some (.int .i64 3) := cell_of_row _ _ _ _ _ (0, 0) ((hx.other (w.heap.size) q3 (by omega)).trans HBR2.out.r3)
              have z3_7 : wx.cell? ⟨w.heap.size, 7, none⟩ = some (.int .i64 10) := cell_of_row _ _ _ _ _ (0, 0) ((hx.other (w.heap.size) q3 (by omega)).trans HBR2.out.r3)
              have z3_8 : wx.cell? ⟨w.heap.size, 8, none⟩ = some (.int .i64 0) := cell_of_row _ _ _ _ _ (0, 0) ((hx.other (w.heap.size) q3 (by omega)).trans HBR2.out.r3)
              have zd : wx.cell? ⟨gd, 0 + k, none⟩ = some (.int .i64 dk) := by rw [Nat.zero_add]; exact (cell_of_row _ _ _ _ _ (0, 0) ((hx.other gd q0 (by omega)).trans HBR2.out.r0)).trans HCD.out
              rw [Nat.zero_add] at zd
              first
                | (go_simp
                   first
                    | (go_at_call 7; with_reducible refine (FS.out _).mono ?_; rintro e x1 ⟨rfl, hb⟩; exact hK _ (hx.next hb))
                    | (go_at_K; exact hK _ hx)))
             exact ⟨_, rfl⟩)
          | (refine Chain.walk_no (by rfl) (by decide) ?_; simp only [Act.put, List.setIfInBounds_toArray, List.set_cons_succ, List.set_cons_zero]))
      (first
          | (apply Chain.walk_quiet (by rfl) (by decide)
             (intro p wx hp hwn hx K hK
              have z3_0 : wx.cell? ⟨w.heap.size, 0, none⟩ = some (.int .i64 0) := cell_of_row _ _ _ _ _ (0, 0) ((hx.other (w.heap.size) q3 (by omega)).trans HBR2.out.r3)
              have z3_1 : wx.cell? ⟨w.heap.size, 1, none⟩ = some (.int .i64 0) := cell_of_row _ _ _ _ _ (0, 0) ((hx.other (w.heap.size) q3 (by omega)).trans HBR2.out.r3)
              have z3_2 : wx.cell? ⟨w.heap.size, 2, none⟩ = some (.int .i64 0) := cell_of_row _ _ _ _ _ (0, 0) ((hx.other (w.heap.size) q3 (by omega)).trans HBR2.out.r3)
              have z3_3 : wx.cell? ⟨w.heap.size, 3, none⟩ = some (.int .i64 0) := cell_of_row _ _ _ _ _ (0, 0) ((hx.other (w.heap.size) q3 (by omega)).trans HBR2.out.r3)
              have z3_4 : wx.cell? ⟨w.heap.size, 4, none⟩ = some (.int .i64 0) := cell_of_row _ _ _ _ _ (0, 0) ((hx.other (w.heap.size) q3 (by omega)).trans HBR2.out.r3)
              have z3_5 : wx.cell? ⟨w.heap.size, 5, none⟩ = some (.int .i64 2) := cell_of_row _ _ _ _ _ (0, 0) ((hx.other (w.heap.size) q3 (by omega)).trans HBR2.out.r3)
              have z3_6 : wx.cell? ⟨w.heap.size, 6, none⟩ = some (.int .i64 3) := cell_of_row _ _ _ _ _ (0, 0) ((hx.other (w.heap.size) q3 (by omega)).trans HBR2.out.r3)
              have z3_7 : wx.cell? ⟨w.heap.size, 7, none⟩ = some (.int .i64 10) := cell_of_row _ _ _ _ _ (0, 0) ((hx.other (w.heap.size) q3 (by omega)).trans HBR2.out.r3)
              have z3_8 : wx.cell? ⟨w.heap.size, 8, none⟩ = some (.int .i64 0) := cell_of_row _ _ _ _ _ (0, 0) ((hx.other (w.heap.size) q3 (by omega)).trans HBR2.out.r3)
              have zd : wx.cell? ⟨gd, 0 + k, none⟩ = some (.int .i64 dk) := by rw [Nat.zero_add]; exact (cell_of_row _ _ _ _ _ (0, 0) ((hx.other gd q0 (by omega)).trans HBR2.out.r0)).trans HCD.out
              rw [Nat.zero_add] at zd
              first
                | (go_simp
                   first
                    | (go_at_call 7; with_reducible refine (FS.out _).mono ?_; rintro e x1 ⟨rfl, hb⟩; exact hK _ (hx.next hb))
                    | (go_at_K; exact hK _ hx)))
             exact ⟨_, rfl⟩)
          | (refine Chain.walk_no (by rfl) (by decide) ?_; simp only [Act.put, List.setIfInBounds_toArray, List.set_cons_succ, List.set_cons_zero]))
      (first
          | (apply Chain.walk_quiet (by rfl) (by decide)
             (intro p wx hp hwn hx K hK
              have z3_0 : wx.cell? ⟨w.heap.size, 0, none⟩ = some (.int .i64 0) := cell_of_row _ _ _ _ _ (0, 0) ((hx.other (w.heap.size) q3 (by omega)).trans HBR2.out.r3)
              have z3_1 : wx.cell? ⟨w.heap.size, 1, none⟩ = some (.int .i64 0) := cell_of_row _ _ _ _ _ (0, 0) ((hx.other (w.heap.size) q3 (by omega)).trans HBR2.out.r3)
              have z3_2 : wx.cell? ⟨w.heap.size, 2, none⟩ = some (.int .i64 0) := cell_of_row _ _ _ _ _ (0, 0) ((hx.other (w.heap.size) q3 (by omega)).trans HBR2.out.r3)
              have z3_3 : wx.cell? ⟨w.heap.size, 3, none⟩ = some (.int .i64 0) := cell_of_row _ _ _ _ _ (0, 0) ((hx.other (w.heap.size) q3 (by omega)).trans HBR2.out.r3)
              have z3_4 : wx.cell? ⟨w.heap.size, 4, none⟩ = some (.int .i64 0) := cell_of_row _ _ _ _ _ (0, 0) ((hx.other (w.heap.size) q3 (by omega)).trans HBR2.out.r3)
              have z3_5 : wx.cell? ⟨w.heap.size, 5, none⟩ = some (.int .i64 2) := cell_of_row _ _ _ _ _ (0, 0) ((hx.other (w.heap.size) q3 (by omega)).trans HBR2.out.r3)
              have z3_6 : wx.cell? ⟨w.heap.size, 6, none⟩ = some (.int .i64 3) := cell_of_row _ _ _ _ _ (0, 0) ((hx.other (w.heap.size) q3 (by omega)).trans HBR2.out.r3)
              have z3_7 : wx.cell? ⟨w.heap.size, 7, none⟩ = some (.int .i64 10) := cell_of_row _ _ _ _ _ (0, 0) ((hx.other (w.heap.size) q3 (by omega)).trans HBR2.out.r3)
              have z3_8 : wx.cell? ⟨w.heap.size, 8, none⟩ = some (.int .i64 0) := cell_of_row _ _ _ _ _ (0, 0) ((hx.other (w.heap.size) q3 (by omega)).trans HBR2.out.r3)
              have zd : wx.cell? ⟨gd, 0 + k, none⟩ = some (.int .i64 dk) := by rw [Nat.zero_add]; exact (cell_of_row _ _ _ _ _ (0, 0) ((hx.other gd q0 (by omega)).trans HBR2.out.r0)).trans HCD.out
              rw [Nat.zero_add] at zd
              first
                | (go_simp
                   first
                    | (go_at_call 7; with_reducible refine (FS.out _).mono ?_; rintro e x1 ⟨rfl, hb⟩; exact hK _ (hx.next hb))
                    | (go_at_K; exact hK _ hx)))
             exact ⟨_, rfl⟩)
          | (refine Chain.walk_no (by rfl) (by decide) ?_; simp only [Act.put, List.setIfInBounds_toArray, List.set_cons_succ, List.set_cons_zero]))
      (first
          | (apply Chain.walk_quiet (by rfl) (by decide)
             (intro p wx hp hwn hx K hK
              have z3_0 : wx.cell? ⟨w.heap.size, 0, none⟩ = some (.int .i64 0) := cell_of_row _ _ _ _ _ (0, 0) ((hx.other (w.heap.size) q3 (by omega)).trans HBR2.out.r3)
              have z3_1 : wx.cell? ⟨w.heap.size, 1, none⟩ = some (.int .i64 0) := cell_of_row _ _ _ _ _ (0, 0) ((hx.other (w.heap.size) q3 (by omega)).trans HBR2.out.r3)
              have z3_2 : wx.cell? ⟨w.heap.size, 2, none⟩ = some (.int .i64 0) := cell_of_row _ _ _ _ _ (0, 0) ((hx.other (w.heap.size) q3 (by omega)).trans HBR2.out.r3)
              have z3_3 : wx.cell? ⟨w.heap.size, 3, none⟩ = some (.int .i64 0) := cell_of_row _ _ _ _ _ (0, 0) ((hx.other (w.heap.size) q3 (by omega)).trans HBR2.out.r3)
              have z3_4 : wx.cell? ⟨w.heap.size, 4, none⟩ = some (.int .i64 0) := cell_of_row _ _ _ _ _ (0, 0) ((hx.other (w.heap.size) q3 (by omega)).trans HBR2.out.r3)
              have z3_5 : wx.cell? ⟨w.heap.size, 5, none⟩ = some (.int .i64 2) := cell_of_row _ _ _ _ _ (0, 0) ((hx.other (w.heap.size) q3 (by omega)).trans HBR2.out.r3)
              have z3_6 : wx.cell? ⟨w.heap.size, 6, none⟩ = some (.int .i64 3) := cell_of_row _ _ _ _ _ (0, 0) ((hx.other (w.heap.size) q3 (by omega)).trans HBR2.out.r3)
              have z3_7 : wx.cell? ⟨w.heap.size, 7, none⟩ = some (.int .i64 10) := cell_of_row _ _ _ _ _ (0, 0) ((hx.other (w.heap.size) q3 (by omega)).trans HBR2.out.r3)
              have z3_8 : wx.cell? ⟨w.heap.size, 8, none⟩ = some (.int .i64 0) := cell_of_row _ _ _ _ _ (0, 0) ((hx.other (w.heap.size) q3 (by omega)).trans HBR2.out.r3)
              have zd : wx.cell? ⟨gd, 0 + k, none⟩ = some (.int .i64 dk) := by rw [Nat.zero_add]; exact (cell_of_row _ _ _ _ _ (0, 0) ((hx.other gd q0 (by omega)).trans HBR2.out.r0)).trans HCD.out
              rw [Nat.zero_add] at zd
              first
                | (go_simp
                   first
                    | (go_at_call 7; with_reducible refine (FS.out _).mono ?_; rintro e x1 ⟨rfl, hb⟩; exact hK _ (hx.next hb))
                    | (go_at_K; exact hK _ hx)))
             exact ⟨_, rfl⟩)
          | (refine Chain.walk_no (by rfl) (by decide) ?_; simp only [Act.put, List.setIfInBounds_toArray, List.set_cons_succ, List.set_cons_zero]))
      (first
          | (apply Chain.walk_quiet (by rfl) (by decide)
             (intro p wx hp hwn hx K hK
              have z3_0 : wx.cell? ⟨w.heap.size, 0, none⟩ = some (.int .i64 0) := cell_of_row _ _ _ _ _ (0, 0) ((hx.other (w.heap.size) q3 (by omega)).trans HBR2.out.r3)
              have z3_1 : wx.cell? ⟨w.heap.size, 1, none⟩ = some (.int .i64 0) := cell_of_row _ _ _ _ _ (0, 0) ((hx.other (w.heap.size) q3 (by omega)).trans HBR2.out.r3)
              have z3_2 : wx.cell? ⟨w.heap.size, 2, none⟩ = some (.int .i64 0) := cell_of_row _ _ _ _ _ (0, 0) ((hx.other (w.heap.size) q3 (by omega)).trans HBR2.out.r3)
              have z3_3 : wx.cell? ⟨w.heap.size, 3, none⟩ = some (.int .i64 0) := cell_of_row _ _ _ _ _ (0, 0) ((hx.other (w.heap.size) q3 (by omega)).trans HBR2.out.r3)
              have z3_4 : wx.cell? ⟨w.heap.size, 4, none⟩ = some (.int .i64 0) := cell_of_row _ _ _ _ _ (0, 0) ((hx.other (w.heap.size) q3 (by omega)).trans HBR2.out.r3)
              have z3_5 : wx.cell? ⟨w.heap.size, 5, none⟩ = some (.int .i64 2) := cell_of_row _ _ _ _ _ (0, 0) ((hx.other (w.heap.size) q3 (by omega)).trans HBR2.out.r3)
              have z3_6 : wx.cell? ⟨w.heap.size, 6, none⟩ = some (.int .i64 3) := cell_of_row _ _ _ _ _ (0, 0) ((hx.other (w.heap.size) q3 (by omega)).trans HBR2.out.r3)
              have z3_7 : wx.cell? ⟨w.heap.size, 7, none⟩ = some (.int .i64 10) := cell_of_row _ _ _ _ _ (0, 0) ((hx.other (w.heap.size) q3 (by omega)).trans HBR2.out.r3)
              have z3_8 : wx.cell? ⟨w.heap.size, 8, none⟩ = some (.int .i64 0) := cell_of_row _ _ _ _ _ (0, 0) ((hx.other (w.heap.size) q3 (by omega)).trans HBR2.out.r3)
              have zd : wx.cell? ⟨gd, 0 + k, none⟩ = some (.int .i64 dk) := by rw [Nat.zero_add]; exact (cell_of_row _ _ _ _ _ (0, 0) ((hx.other gd q0 (by omega)).trans HBR2.out.r0)).trans HCD.out
              rw [Nat.zero_add] at zd
              first
                | (go_simp
                   first
                    | (go_at_call 7; with_reducible refine (FS.out _).mono ?_; rintro e x1 ⟨rfl, hb⟩; exact hK _ (hx.next hb))
                    | (go_at_K; exact hK _ hx)))
             exact ⟨_, rfl⟩)
          | (refine Chain.walk_no (by rfl) (by decide) ?_; simp only [Act.put, List.setIfInBounds_toArray, List.set_cons_succ, List.set_cons_zero]))
      (first
          | (apply Chain.walk_quiet (by rfl) (by decide)
             (intro p wx hp hwn hx K hK
              have z3_0 : wx.cell? ⟨w.heap.size, 0, none⟩ = some (.int .i64 0) := cell_of_row _ _ _ _ _ (0, 0) ((hx.other (w.heap.size) q3 (by omega)).trans HBR2.out.r3)
              have z3_1 : wx.cell? ⟨w.heap.size, 1, none⟩ = some (.int .i64 0) := cell_of_row _ _ _ _ _ (0, 0) ((hx.other (w.heap.size) q3 (by omega)).trans HBR2.out.r3)
              have z3_2 : wx.cell? ⟨w.heap.size, 2, none⟩ = some (.int .i64 0) := cell_of_row _ _ _ _ _ (0, 0) ((hx.other (w.heap.size) q3 (by omega)).trans HBR2.out.r3)
              have z3_3 : wx.cell? ⟨w.heap.size, 3, none⟩ = some (.int .i64 0) := cell_of_row _ _ _ _ _ (0, 0) ((hx.other (w.heap.size) q3 (by omega)).trans HBR2.out.r3)
              have z3_4 : wx.cell? ⟨w.heap.size, 4, none⟩ = some (.int .i64 0) := cell_of_row _ _ _ _ _ (0, 0) ((hx.other (w.heap.size) q3 (by omega)).trans HBR2.out.r3)
              have z3_5 : wx.cell? ⟨w.heap.size, 5, none⟩ = some (.int .i64 2) := cell_of_row _ _ _ _ _ (0, 0) ((hx.other (w.heap.size) q3 (by omega)).trans HBR2.out.r3)
              have z3_6 : wx.cell? ⟨w.heap.size, 6, none⟩ = some (.int .i64 3) := cell_of_row _ _ _ _ _ (0, 0) ((hx.other (w.heap.size) q3 (by omega)).trans HBR2.out.r3)
              have z3_7 : wx.cell? ⟨w.heap.size, 7, none⟩ = some (.int .i64 10) := cell_of_row _ _ _ _ _ (0, 0) ((hx.other (w.heap.size) q3 (by omega)).trans HBR2.out.r3)
              have z3_8 : wx.cell? ⟨w.heap.size, 8, none⟩ = some (.int .i64 0) := cell_of_row _ _ _ _ _ (0, 0) ((hx.other (w.heap.size) q3 (by omega)).trans HBR2.out.r3)
              have zd : wx.cell? ⟨gd, 0 + k, none⟩ = some (.int .i64 dk) := by rw [Nat.zero_add]; exact (cell_of_row _ _ _ _ _ (0, 0) ((hx.other gd q0 (by omega)).trans HBR2.out.r0)).trans HCD.out
              rw [Nat.zero_add] at zd
              first
                | (go_simp
                   first
                    | (go_at_call 7; with_reducible refine (FS.out _).mono ?_; rintro e x1 ⟨rfl, hb⟩; exact hK _ (hx.next hb))
                    | (go_at_K; exact hK _ hx)))
             exact ⟨_, rfl⟩)
          | (refine Chain.walk_no (by rfl) (by decide) ?_; simp only [Act.put, List.setIfInBounds_toArray, List.set_cons_succ, List.set_cons_zero]))
      (first
          | (apply Chain.walk_quiet (by rfl) (by decide)
             (intro p wx hp hwn hx K hK
              have z3_0 : wx.cell? ⟨w.heap.size, 0, none⟩ = some (.int .i64 0) := cell_of_row _ _ _ _ _ (0, 0) ((hx.other (w.heap.size) q3 (by omega)).trans HBR2.out.r3)
              have z3_1 : wx.cell? ⟨w.heap.size, 1, none⟩ = some (.int .i64 0) := cell_of_row _ _ _ _ _ (0, 0) ((hx.other (w.heap.size) q3 (by omega)).trans HBR2.out.r3)
              have z3_2 : wx.cell? ⟨w.heap.size, 2, none⟩ = some (.int .i64 0) := cell_of_row _ _ _ _ _ (0, 0) ((hx.other (w.heap.size) q3 (by omega)).trans HBR2.out.r3)
              have z3_3 : wx.cell? ⟨w.heap.size, 3, none⟩ = some (.int .i64 0) := cell_of_row _ _ _ _ _ (0, 0) ((hx.other (w.heap.size) q3 (by omega)).trans HBR2.out.r3)
              have z3_4 : wx.cell? ⟨w.heap.size, 4, none⟩ = some (.int .i64 0) := cell_of_row _ _ _ _ _ (0, 0) ((hx.other (w.heap.size) q3 (by omega)).trans HBR2.out.r3)
              have z3_5 : wx.cell? ⟨w.heap.size, 5, none⟩ = some (.int .i64 2) := cell_of_row _ _ _ _ _ (0, 0) ((hx.other (w.heap.size) q3 (by omega)).trans HBR2.out.r3)
              have z3_6 : wx.cell? ⟨w.heap.size, 6, none⟩ = some (.int .i64 3) := cell_of_row _ _ _ _ _ (0, 0) ((hx.other (w.heap.size) q3 (by omega)).trans HBR2.out.r3)
              have z3_7 : wx.cell? ⟨w.heap.size, 7, none⟩ = some (.int .i64 10) := cell_of_row _ _ _ _ _ (0, 0) ((hx.other (w.heap.size) q3 (by omega)).trans HBR2.out.r3)
              have z3_8 : wx.cell? ⟨w.heap.size, 8, none⟩ = some (.int .i64 0) := cell_of_row _ _ _ _ _ (0, 0) ((hx.other (w.heap.size) q3 (by omega)).trans HBR2.out.r3)
              have zd : wx.cell? ⟨gd, 0 + k, none⟩ = some (.int .i64 dk) := by rw [Nat.zero_add]; exact (cell_of_row _ _ _ _ _ (0, 0) ((hx.other gd q0 (by omega)).trans HBR2.out.r0)).trans HCD.out
              rw [Nat.zero_add] at zd
              first
                | (go_simp
                   first
                    | (go_at_call 7; with_reducible refine (FS.out _).mono ?_; rintro e x1 ⟨rfl, hb⟩; exact hK _ (hx.next hb))
                    | (go_at_K; exact hK _ hx)))
             exact ⟨_, rfl⟩)
          | (refine Chain.walk_no (by rfl) (by decide) ?_; simp only [Act.put, List.setIfInBounds_toArray, List.set_cons_succ, List.set_cons_zero]))
      (first
          | (apply Chain.walk_quiet (by rfl) (by decide)
             (intro p wx hp hwn hx K hK
              have z3_0 : wx.cell? ⟨w.heap.size, 0, none⟩ = some (.int .i64 0) := cell_of_row _ _ _ _ _ (0, 0) ((hx.other (w.heap.size) q3 (by omega)).trans HBR2.out.r3)
              have z3_1 : wx.cell? ⟨w.heap.size, 1, none⟩ = some (.int .i64 0) := cell_of_row _ _ _ _ _ (0, 0) ((hx.other (w.heap.size) q3 (by omega)).trans HBR2.out.r3)
              have z3_2 : wx.cell? ⟨w.heap.size, 2, none⟩ = some (.int .i64 0) := cell_of_row _ _ _ _ _ (0, 0) ((hx.other (w.heap.size) q3 (by omega)).trans HBR2.out.r3)
              have z3_3 : wx.cell? ⟨w.heap.size, 3, none⟩ = some (.int .i64 0) := cell_of_row _ _ _ _ _ (0, 0) ((hx.other (w.heap.size) q3 (by omega)).trans HBR2.out.r3)
              have z3_4 : wx.cell? ⟨w.heap.size, 4, none⟩ = some (.int .i64 0) := cell_of_row _ _ _ _ _ (0, 0) ((hx.other (w.heap.size) q3 (by omega)).trans HBR2.out.r3)
              have z3_5 : wx.cell? ⟨w.heap.size, 5, none⟩ = some (.int .i64 2) := cell_of_row _ _ _ _ _ (0, 0) ((hx.other (w.heap.size) q3 (by omega)).trans HBR2.out.r3)
              have z3_6 : wx.cell? ⟨w.heap.size, 6, none⟩ = some (.int .i64 3) := cell_of_row _ _ _ _ _ (0, 0) ((hx.other (w.heap.size) q3 (by omega)).trans HBR2.out.r3)
              have z3_7 : wx.cell? ⟨w.heap.size, 7, none⟩ = some (.int .i64 10) := cell_of_row _ _ _ _ _ (0, 0) ((hx.other (w.heap.size) q3 (by omega)).trans HBR2.out.r3)
              have z3_8 : wx.cell? ⟨w.heap.size, 8, none⟩ = some (.int .i64 0) := cell_of_row _ _ _ _ _ (0, 0) ((hx.other (w.heap.size) q3 (by omega)).trans HBR2.out.r3)
              have zd : wx.cell? ⟨gd, 0 + k, none⟩ = some (.int .i64 dk) := by rw [Nat.zero_add]; exact (cell_of_row _ _ _ _ _ (0, 0) ((hx.other gd q0 (by omega)).trans HBR2.out.r0)).trans HCD.out
              rw [Nat.zero_add] at zd
              first
                | (go_simp
                   first
                    | (go_at_call 7; with_reducible refine (FS.out _).mono ?_; rintro e x1 ⟨rfl, hb⟩; exact hK _ (hx.next hb))
                    | (go_at_K; exact hK _ hx)))
             exact ⟨_, rfl⟩)
          | (refine Chain.walk_no (by rfl) (by decide) ?_; simp only [Act.put, List.setIfInBounds_toArray, List.set_cons_succ, List.set_cons_zero]))
      apply Chain.walk_turn 0 (by rfl) (by rfl)
      · intro wx hx K hK
        exact Put.store 25 _ _ rfl rfl rfl hx (by kernel_rfl) rfl (by kernel_rfl) (fun w2 h => hK w2 h)
      · exact ⟨undef, rfl⟩
      iterate 1 (
             apply Chain.walk_quiet (by rfl) (by decide)
             (intro p wx hp hwn hx K hK
              go_simp
              (go_at_K; exact hK _ hx))
             exact ⟨_, rfl⟩)
      refine Chain.walk_nil (fun w6 hp6 => ?_)
      replace hp6 : Put (wr) (gs) (.cells #[.int .i64 a', .int .i64 b', .int .i64 c', .bool d', .int .i64 e'] 25 (0, 0)) w6 := hp6
      try simp only [Act.put, List.setIfInBounds_toArray, List.set_cons_succ, List.set_cons_zero]
      have HB6 : Hid (Bx w [(gd, .cells #[.int .i64 1, .int .i64 1, .int .i64 1, .int .i64 1, .int .i64 0, .int .i64 2] 3 (0, 0)), (gw, .cells #[.int .i64 0, .int .i64 0, .int .i64 0, .int .i64 4, .int .i64 4, .int .i64 0] 3 (0, 0)), (gs, .cells #[.int .i64 a', .int .i64 b', .int .i64 c', .bool d', .int .i64 e'] 25 (0, 0)), (w.heap.size, .cells #[.int .i64 0, .int .i64 0, .int .i64 0, .int .i64 0, .int .i64 0, .int .i64 2, .int .i64 3, .int .i64 10, .int .i64 0] 23 (0, 0))] w6) := Lib.hid (HBR2.out.ofPut (by omega) hp6 (by simp only [List.mem_cons, List.not_mem_nil, or_false]; rintro p (rfl | rfl | rfl | rfl) <;> simp <;> omega))
      clear hp6 HBR2 q0 q1 q2 q3
      have zw : w6.cell? ⟨gw, k, none⟩ = some (.int .i64 ck) := (cell_of_row _ _ _ _ _ (0, 0) HB6.out.r1).trans HCW.out
      go_wp2_with fail
      go_roundw
      case rel => exact ⟨k + 1, ck, by omega, rfl, by go_num, by rw [HS1.out]; exact HB6.out⟩
      case measure => simp [intOf]; omega
    · obtain rfl : k = 6 := by omega
      have HBR2 : Hid (Bx w [(gd, .cells #[.int .i64 1, .int .i64 1, .int .i64 1, .int .i64 1, .int .i64 0, .int .i64 2] 3 (0, 0)), (gw, .cells #[.int .i64 0, .int .i64 0, .int .i64 0, .int .i64 4, .int .i64 4, .int .i64 0] 3 (0, 0)), (gs, .cells #[.int .i64 0, .int .i64 0, .int .i64 0, .bool false, .int .i64 0] 25 (0, 0)), (w.heap.size, .cells #[.int .i64 0, .int .i64 0, .int .i64 0, .int .i64 0, .int .i64 0, .int .i64 2, .int .i64 3, .int .i64 10, .int .i64 0] 23 (0, 0))] wr) := HBR
      clear HBR
      have c0_0 : wr.cell? ⟨gd, 0, none⟩ = some (.int .i64 1) := cell_of_row _ _ _ _ _ (0, 0) HBR2.out.r0
      have c0_1 : wr.cell? ⟨gd, 1, none⟩ = some (.int .i64 1) := cell_of_row _ _ _ _ _ (0, 0) HBR2.out.r0
      have c0_2 : wr.cell? ⟨gd, 2, none⟩ = some (.int .i64 1) := cell_of_row _ _ _ _ _ (0, 0) HBR2.out.r0
      have c0_3 : wr.cell? ⟨gd, 3, none⟩ = some (.int .i64 1) := cell_of_row _ _ _ _ _ (0, 0) HBR2.out.r0
      have c0_4 : wr.cell? ⟨gd, 4, none⟩ = some (.int .i64 0) := cell_of_row _ _ _ _ _ (0, 0) HBR2.out.r0
      have c0_5 : wr.cell? ⟨gd, 5, none⟩ = some (.int .i64 2) := cell_of_row _ _ _ _ _ (0, 0) HBR2.out.r0
      have c1_0 : wr.cell? ⟨gw, 0, none⟩ = some (.int .i64 0) := cell_of_row _ _ _ _ _ (0, 0) HBR2.out.r1
      have c1_1 : wr.cell? ⟨gw, 1, none⟩ = some (.int .i64 0) := cell_of_row _ _ _ _ _ (0, 0) HBR2.out.r1
      have c1_2 : wr.cell? ⟨gw, 2, none⟩ = some (.int .i64 0) := cell_of_row _ _ _ _ _ (0, 0) HBR2.out.r1
      have c1_3 : wr.cell? ⟨gw, 3, none⟩ = some (.int .i64 4) := cell_of_row _ _ _ _ _ (0, 0) HBR2.out.r1
      have c1_4 : wr.cell? ⟨gw, 4, none⟩ = some (.int .i64 4) := cell_of_row _ _ _ _ _ (0, 0) HBR2.out.r1
      have c1_5 : wr.cell? ⟨gw, 5, none⟩ = some (.int .i64 0) := cell_of_row _ _ _ _ _ (0, 0) HBR2.out.r1
      have c2_0 : wr.cell? ⟨gs, 0, none⟩ = some (.int .i64 0) := cell_of_row _ _ _ _ _ (0, 0) HBR2.out.r2
      have c2_1 : wr.cell? ⟨gs, 1, none⟩ = some (.int .i64 0) := cell_of_row _ _ _ _ _ (0, 0) HBR2.out.r2
      have c2_2 : wr.cell? ⟨gs, 2, none⟩ = some (.int .i64 0) := cell_of_row _ _ _ _ _ (0, 0) HBR2.out.r2
      have c2_3 : wr.cell? ⟨gs, 3, none⟩ = some (.bool false) := cell_of_row _ _ _ _ _ (0, 0) HBR2.out.r2
      have c2_4 : wr.cell? ⟨gs, 4, none⟩ = some (.int .i64 0) := cell_of_row _ _ _ _ _ (0, 0) HBR2.out.r2
      have c3_0 : wr.cell? ⟨w.heap.size, 0, none⟩ = some (.int .i64 0) := cell_of_row _ _ _ _ _ (0, 0) HBR2.out.r3
      have c3_1 : wr.cell? ⟨w.heap.size, 1, none⟩ = some (.int .i64 0) := cell_of_row _ _ _ _ _ (0, 0) HBR2.out.r3
      have c3_2 : wr.cell? ⟨w.heap.size, 2, none⟩ = some (.int .i64 0) := cell_of_row _ _ _ _ _ (0, 0) HBR2.out.r3
      have c3_3 : wr.cell? ⟨w.heap.size, 3, none⟩ = some (.int .i64 0) := cell_of_row _ _ _ _ _ (0, 0) HBR2.out.r3
      have c3_4 : wr.cell? ⟨w.heap.size, 4, none⟩ = some (.int .i64 0) := cell_of_row _ _ _ _ _ (0, 0) HBR2.out.r3
      have c3_5 : wr.cell? ⟨w.heap.size, 5, none⟩ = some (.int .i64 2) := cell_of_row _ _ _ _ _ (0, 0) HBR2.out.r3
      have c3_6 : wr.cell? ⟨w.heap.size, 6, none⟩ = some (.int .i64 3) := cell_of_row _ _ _ _ _ (0, 0) HBR2.out.r3
      have c3_7 : wr.cell? ⟨w.heap.size, 7, none⟩ = some (.int .i64 10) := cell_of_row _ _ _ _ _ (0, 0) HBR2.out.r3
      have c3_8 : wr.cell? ⟨w.heap.size, 8, none⟩ = some (.int .i64 0) := cell_of_row _ _ _ _ _ (0, 0) HBR2.out.r3
      go_wp2_with fail
      refine (FI.out _).mono ?_
      rintro e w51 ⟨rfl, hb51⟩
      have HB51 := Lib.hid (HBR2.out.next hb51)
      clear c0_0 c0_1 c0_2 c0_3 c0_4 c0_5 c1_0 c1_1 c1_2 c1_3 c1_4 c1_5 c2_0 c2_1 c2_2 c2_3 c2_4 c3_0 c3_1 c3_2 c3_3 c3_4 c3_5 c3_6 c3_7 c3_8 hb51 HBR2
      go_wp2_with fail
      go_ret
      exact ⟨rfl, HB51.out.below⟩
end Go.Proofs.Ythniolaeicmjlaa
