/- stops and few of stage 11's laws. No statement of the seat is proved here. -/
import Derived.Test.YtfbmaocedicelaaDoorCvPlay
import Derived.Test.YtfbmaocedicelaaDoorCsHas
import Derived.OwnWalk
namespace Go.Proofs.YtfbmaocedicelaaDoor
open Go.RowKit Ghost

/-- What the loop over the floors has found below floor k. -/
def atK (F : Nat) (s : Stp) (f k : Nat) : Bool := (List.range k).any fun j => Cv.atB F s j && decide (j = f)
def abK (F : Nat) (s : Stp) (f k : Nat) : Bool := (List.range k).any fun j => Cv.atB F s j && decide (f < j)
def beK (F : Nat) (s : Stp) (f k : Nat) : Bool := (List.range k).any fun j => Cv.atB F s j && decide (j < f)
theorem any_succ (p : Nat → Bool) (k : Nat) : (List.range (k + 1)).any p = ((List.range k).any p || p k) := by
  rw [List.range_succ, List.any_append]
  simp
theorem shr_bit {a : Nat} (k : Nat) (ha : a < 4294967296) : (bits .and .u32 ((a : Int) / 2 ^ k) 1 == 1) = a.testBit k := bit_f k ha
set_option maxRecDepth 100000 in
set_option maxHeartbeats 8000000 in
theorem stops_any (F f : Nat) (s : Stp) (w : World) (hF2 : 2 ≤ F) (hF : F ≤ 32) (hs : s.ok) :
    Calls Tryd.prog 12 #[.int .i64 (F : Int), s.agg, .int .i64 (f : Int)] w fun e w' => e = .returned (.tuple #[.bool (atK F s f F), .bool (abK F s f F), .bool (beK F s f F)]) ∧ Below w.heap.size w w' := by
  have FH1 := Lib.hid (fun (k : Nat) wx => refHas_any s.h (k : Int) 1 wx hs.2)
  have FH2 := Lib.hid (fun (k : Nat) wx => refHas_any s.h (k : Int) 2 wx hs.2)
  have HU := Lib.hid (fun k (hk : k < 32) => Cs.has_up hs.2 hk)
  have HD := Lib.hid (fun k (hk : k < 32) => Cs.has_dn hs.2 hk)
  have HS := Lib.hid (fun k => shr_bit k hs.1)
  have HA := Lib.hid (fun k (hk : k < F) => show Cv.atB F s k = (s.car.testBit k || (s.h.up.testBit k && decide (k + 1 < F)) || (s.h.dn.testBit k && decide (0 < k))) from by unfold Cv.atB; simp [hk])
  have H1 := Lib.hid (fun k => show atK F s f (k + 1) = (atK F s f k || (Cv.atB F s k && decide (k = f))) from any_succ _ _)
  have H2 := Lib.hid (fun k => show abK F s f (k + 1) = (abK F s f k || (Cv.atB F s k && decide (f < k))) from any_succ _ _)
  have H3 := Lib.hid (fun k => show beK F s f (k + 1) = (beK F s f k || (Cv.atB F s k && decide (k < f))) from any_succ _ _)
  have HZ := Lib.hid (show atK F s f 0 = false ∧ abK F s f 0 = false ∧ beK F s f 0 = false from ⟨rfl, rfl, rfl⟩)
  generalize atK F s f = AT at *
  generalize abK F s f = AB at *
  generalize beK F s f = BE at *
  generalize Cv.atB F s = IS at *
  obtain ⟨s0, s1, s2⟩ := s
  simp only [Stp.agg, Cs.agg] at *
  have hw1 : IntKind.i64.wrap ((F : Int) - 1) = (F : Int) - 1 := by rw [IntKind.wrap_i64]; omega
  have HST : Hid (Below (w.heap.size + 1) (w.alloc (.cells #[.int .u32 s0, .int .u32 s1, .int .u32 s2] 30)) (w.alloc (.cells #[.int .u32 s0, .int .u32 s1, .int .u32 s2] 30))) := Lib.hid (Below.refl _ _)
  clear hs
  go_enter Tryd.func12, Tryd.ntmps12
  go_wp2_with fail
  go_loopw [9, 10, 11, 12] (fun va vb vc vk wr => ∃ k : Nat, k ≤ F ∧ va = .bool (AT k) ∧ vb = .bool (AB k) ∧ vc = .bool (BE k) ∧ vk = .int .i64 (k : Int) ∧ Below (w.heap.size + 1) (w.alloc (.cells #[.int .u32 s0, .int .u32 s1, .int .u32 s2] 30)) wr) (fun _ _ _ vk _ => F - (intOf vk).toNat)
  case atStart => exact ⟨0, by omega, by rw [HZ.out.1], by rw [HZ.out.2.1], by rw [HZ.out.2.2], rfl, HST.out⟩
  case round =>
    obtain ⟨k, hk, rfl, rfl, rfl, rfl, hbx⟩ := hrel
    have HB := Lib.hid hbx
    clear hbx
    by_cases hlt : k < F
    · have hd : decide ((k : Int) < (F : Int)) = true := decide_eq_true (by omega)
      have hk32 : k < 32 := by omega
      have F1 := Lib.hid (fun wx => FH1.out k wx)
      have F2 := Lib.hid (fun wx => FH2.out k wx)
      rw [HU.out k hk32] at F1
      rw [HD.out k hk32] at F2
      have hbit := HS.out k
      have ha := HA.out k hlt
      have h1 := H1.out k
      have h2 := H2.out k
      have h3 := H3.out k
      have hw2 : IntKind.i64.wrap ((k : Int) + 1) = (k : Int) + 1 := by rw [IntKind.wrap_i64]; omega
      have hu : decide ((k : Int) < (F : Int) - 1) = decide (k + 1 < F) := by rw [decide_eq_decide]; omega
      have t1 : ((k : Int) == (f : Int)) = decide (k = f) := by
        by_cases h : k = f
        · subst h; simp
        · rw [decide_eq_false h, beq_eq_false_iff_ne]; omega
      have HKL := Lib.hid hlt
      obtain ⟨c0, c1, c2⟩ := stRow ((HB.out.block w.heap.size (by omega)).trans (heap_alloc_new w _))
      try simp only at c0 c1 c2 hbit
      generalize decide (k + 1 < F) = u at *
      generalize decide (k = f) = y1 at *
      obtain ⟨z, hz⟩ : ∃ z, decide (0 < k) = z := ⟨_, rfl⟩
      obtain ⟨y2, hy2⟩ : ∃ z, decide (f < k) = z := ⟨_, rfl⟩
      obtain ⟨y3, hy3⟩ : ∃ z, decide (k < f) = z := ⟨_, rfl⟩
      rw [hz] at ha
      rw [hy2] at h2
      rw [hy3] at h3
      generalize s0.testBit k = b0 at *
      generalize s1.testBit k = b1 at *
      generalize s2.testBit k = b2 at *
      generalize IS k = is at *
      generalize hA0 : AT k = a0 at *
      generalize hA1 : AB k = a1 at *
      generalize hA2 : BE k = a2 at *
      have HA1 := Lib.hid h1
      have HA2 := Lib.hid h2
      have HA3 := Lib.hid h3
      have HAI := Lib.hid ha
      clear h1 h2 h3 ha hlt hk hA0 hA1 hA2
      cases b0 <;> cases u <;> cases z
      all_goals
        go_wp2_with (go_at_call 25; first | (with_reducible refine (F1.out _).mono ?_; rintro e w1 ⟨rfl, hb1⟩; obtain ⟨e0, e1, e2⟩ := stRow (((HB.out.trans (hb1.mono (by have := HB.out.size; simp at this; omega))).block w.heap.size (by omega)).trans (heap_alloc_new w _))) | (with_reducible refine (F2.out _).mono ?_; rintro e w2 ⟨rfl, hb2⟩))
        all_goals
          go_roundw
          case rel => exact ⟨k + 1, HKL.out, congrArg Value.bool (by rw [HA1.out, HAI.out]; simp [*]), congrArg Value.bool (by rw [HA2.out, HAI.out]; simp [*]), congrArg Value.bool (by rw [HA3.out, HAI.out]; simp [*]), by rw [Int.natCast_add]; rfl, by first | exact HB.out | exact HB.out.trans (hb1.mono (by have := HB.out.size; simp at this; omega)) | exact HB.out.trans (hb2.mono (by have := HB.out.size; simp at this; omega)) | exact HB.out.trans ((hb1.trans (hb2.mono hb1.size)).mono (by have := HB.out.size; simp at this; omega))⟩
          case measure => have := HKL.out; simp [intOf]; omega
    · have hkF : k = F := by omega
      subst hkF
      have hd : decide ((k : Int) < (k : Int)) = false := by simp
      go_wp2_with fail
      go_ret3
      exact ⟨rfl, below_of_new HB.out⟩
end Go.Proofs.YtfbmaocedicelaaDoor
