/- The reference's stops of stage 11: those that count, above, below, marked, counted. No statement of the seat is proved here. -/
import Derived.Test.YteniimbcbjbegaaDoorCvRefA
import Derived.Test.YteniimbcbjbegaaDoorCvCount
import Derived.Test.YteniimbcbjbegaaDoorCvPlace
import Derived.Test.YteniimbcbjbegaaDoorCvEq
namespace Go.Proofs.YteniimbcbjbegaaDoor
open Go.RowKit

theorem up_cnt {u F : Nat} (hu : u < 4294967296) (h1 : 1 ≤ F) (hF : F ≤ 32) : (u &&& Cv.all F) &&& (4294967295 - 2 ^ (F - 1)) = u &&& (Cv.all F >>> 1) := by
  have hp : 2 ^ (F - 1) < 4294967296 := Cs.pow_lt (by omega)
  refine Cs.nat_ext (Cs.and_lt (Cs.and_lt hu)) (Cs.and_lt hu) fun k hk => ?_
  rw [Cs.bit_minus hp hk, Cs.bit_and, Cs.bit_and, Cv.all_bit, Cs.bit_pow, Nat.testBit_shiftRight, Cv.all_bit]
  by_cases h2 : k < F
  · by_cases h3 : F - 1 = k
    · rw [decide_eq_true h2, decide_eq_true h3, show decide (1 + k < F) = false from decide_eq_false (by omega)]; simp
    · rw [decide_eq_true h2, decide_eq_false h3, show decide (1 + k < F) = true from decide_eq_true (by omega)]; simp
  · rw [decide_eq_false h2, show decide (1 + k < F) = false from decide_eq_false (by omega)]; simp
theorem dn_cnt (d a : Nat) : (d &&& a) &&& 4294967294 = d &&& (a &&& 4294967294) := Nat.and_assoc _ _ _
set_option maxHeartbeats 2000000 in
theorem refProper_any (F : Nat) (s : Stp) (w : World) (h1 : 1 ≤ F) (hF : F ≤ 32) (hs : s.ok) :
    Calls Tryd.prog 27 #[.int .i64 (F : Int), s.agg] w fun ee w' => ee = .returned ((Cv.cnt F s).agg) ∧ Below w.heap.size w w' := by
  have hm : min (IntKind.u64.wrap (F : Int)).toNat 32 = F := by rw [IntKind.wrap_u64]; omega
  have hm1 : min (IntKind.u64.wrap ((F : Int) - 1)).toNat 32 = F - 1 := by rw [IntKind.wrap_u64]; omega
  have ha0 := all_int hF
  have ha : ((2 : Int) ^ F - 1) % 4294967296 = ((Cv.all F : Nat) : Int) := by rw [← ha0]; omega
  clear ha0
  have hlt := Cv.all_lt hF
  have hp1 : (2 : Int) ^ (F - 1) % 4294967296 = ((2 ^ (F - 1) : Nat) : Int) := by
    have h := Cs.pow_lt (k := F - 1) (by omega)
    have e : ((2 ^ (F - 1) : Nat) : Int) = (2 : Int) ^ (F - 1) := Int.natCast_pow 2 (F - 1)
    rw [← e]
    generalize (2 ^ (F - 1) : Nat) = P at h ⊢
    omega
  have hpl := Cs.pow_lt (k := F - 1) (by omega)
  have hC : Cv.cnt F s = ⟨s.car &&& Cv.all F, ⟨s.h.up &&& (Cv.all F >>> 1), s.h.dn &&& (Cv.all F &&& 4294967294)⟩⟩ := rfl
  rw [hC, ← up_cnt hs.2.1 h1 hF, ← dn_cnt]
  clear hC
  have f1 : ¬ (F : Int) < 1 := by omega
  have f2 : ¬ (32 : Int) < (F : Int) := by omega
  generalize Cv.all F = al at *
  obtain ⟨s1, s2, s3⟩ := s
  have e1 := u32_and_nat s1 al hs.1 hlt
  have e2 := u32_and_nat s2 al hs.2.1 hlt
  have e3 := u32_and_nat s3 al hs.2.2 hlt
  have e4 := u32_andNot_nat (s2 &&& al) (2 ^ (F - 1)) (Cs.and_lt hs.2.1) hpl
  have e5 := andNot1 (x := s3 &&& al) (Cs.and_lt hs.2.2)
  simp only [Stp.agg] at *
  generalize s1 &&& al = r1 at *
  generalize s2 &&& al = r2 at *
  generalize s3 &&& al = r3 at *
  generalize r3 &&& 4294967294 = q3 at *
  generalize hP : 2 ^ (F - 1) = P at *
  generalize r2 &&& (4294967295 - P) = q2 at *
  have HA := Lib.hid ha
  clear ha
  have HB0 := Lib.hid (bxs2 w (.cells #[.int .u32 s1, .int .u32 s2, .int .u32 s3] 30) (.cells #[.int .u32 0, .int .u32 0, .int .u32 0] 30))
  go_enter Tryd.func27, Tryd.ntmps27
  go_wp2_with (with_reducible show wpList _ _ _ (Oper.mk _ (.store 30 _ _) _ _ _ _ :: _) _ _; refine Hid.out ?_)
  simp only [HA.out, e1, e2, e3, e4, e5]
  refine Lib.hid ?_
  refine wpList_put rfl 30 _ _ rfl (w.heap.size + 1) #[.int .u32 r1, .int .u32 q2, .int .u32 q3] _ 30 rfl rfl HB0.out.r1 (by kernel_rfl) rfl (by kernel_rfl) ?_
  intro w1 hr1 hg1
  have HB1 : Hid (Bx w [(w.heap.size, .cells #[.int .u32 s1, .int .u32 s2, .int .u32 s3] 30 (0, 0)), (w.heap.size + 1, .cells #[.int .u32 r1, .int .u32 q2, .int .u32 q3] 30 (0, 0))] w1) := Lib.hid (HB0.out.put (by omega) hg1.out hr1.out (by simp only [List.mem_cons, List.not_mem_nil, or_false]; rintro p (rfl | rfl) <;> simp <;> omega))
  clear hr1 hg1 HB0
  go_wp2_with fail
  exact bodyPost_ret (results_cell_row Tryd.results27 _ _ _ _ _ (0, 0) _ rfl (HB1.out.r1) Tryd.underlying30 rfl (by kernel_rfl)) rfl (⟨rfl, HB1.out.below⟩)
theorem shr_bit {x k : Nat} (hx : x < 4294967296) : bits .and .u32 ((x : Int) / 2 ^ k) 1 = if x.testBit k = true then 1 else 0 := by
  have h1 : (x : Int) / 2 ^ k = ((x / 2 ^ k : Nat) : Int) := by
    rw [Int.natCast_ediv, Int.natCast_pow]; rfl
  have h2 : x / 2 ^ k < 4294967296 := Nat.lt_of_le_of_lt (Nat.div_le_self _ _) hx
  rw [h1, show (1 : Int) = ((1 : Nat) : Int) from rfl, u32_and_nat _ 1 h2 (by decide)]
  have h3 : x / 2 ^ k &&& 1 = if x.testBit k = true then 1 else 0 := by
    rw [Nat.and_one_is_mod, Nat.testBit_eq_decide_div_mod_eq]
    by_cases h : x / 2 ^ k % 2 = 1
    · simp [h]
    · have : x / 2 ^ k % 2 = 0 := by omega
      simp [this]
  rw [h3]
  split <;> rfl
/-- Is there a bit above, and how far; below. -/
def abvR (a f : Nat) : Bool × Int := match Cv.upF a f with | some i => (true, (i : Int) + 1) | none => (false, 0)
def belR (a f : Nat) : Bool × Int := match Cv.dnF a f with | some i => (true, (i : Int) + 1) | none => (false, 0)
set_option maxHeartbeats 2000000 in
theorem refAboveS_any (f : Nat) (s : Stp) (w : World) (hf : f < 32) (hs : s.ok) :
    Calls Tryd.prog 42 #[s.agg, .int .i64 (f : Int)] w fun ee w' => ee = .returned (.tuple #[.bool (abvR s.bits f).1, .int .i64 (abvR s.bits f).2]) ∧ Below w.heap.size w w' := by
  have hbl := bits_lt hs
  have hbt := fun k => shr_bit (k := k) hbl
  obtain ⟨s1, s2, s3⟩ := s
  have e1 := u32_or_nat s1 s2 hs.1 hs.2.1
  have e2 := u32_or_nat (s1 ||| s2) s3 (Cs.or_lt hs.1 hs.2.1) hs.2.2
  have hbe : Stp.bits ⟨s1, ⟨s2, s3⟩⟩ = s1 ||| s2 ||| s3 := rfl
  rw [hbe] at hbl hbt ⊢
  simp only [Stp.agg]
  clear hs hbe
  generalize s1 ||| s2 = r at *
  generalize r ||| s3 = a at *
  have HBT := Lib.hid hbt
  clear hbt
  have HB0 := Lib.hid (bxs1 w (.cells #[.int .u32 s1, .int .u32 s2, .int .u32 s3] 30))
  go_enter Tryd.func42, Tryd.ntmps42
  go_wp2_with fail
  go_loopw [6] (fun vk wr => ∃ k : Nat, f < k ∧ k ≤ 32 ∧ vk = .int .i64 k ∧ (∀ j, f < j → j < k → a.testBit j = false) ∧ Bx w [(w.heap.size, .cells #[.int .u32 s1, .int .u32 s2, .int .u32 s3] 30 (0, 0))] wr) (fun vk _ => 32 - (intOf vk).toNat)
  case atStart => exact ⟨f + 1, by omega, by omega, by go_num, fun j h1 h2 => absurd h1 (by omega), HB0.out⟩
  case round =>
    obtain ⟨k, hk1, hk2, rfl, hno, hbr⟩ := hrel
    have HBR := Lib.hid hbr
    clear hbr HB0
    have HNO := Lib.hid hno
    clear hno
    by_cases hk : k < 32
    · have hkI : (k : Int) < 32 := by omega
      have hkw : min (IntKind.u64.wrap (k : Int)).toNat 32 = k := by rw [IntKind.wrap_u64]; omega
      have hb := HBT.out k
      have hsub : IntKind.i64.wrap ((k : Int) - (f : Int)) = (k : Int) - (f : Int) := by rw [IntKind.wrap_i64]; omega
      have c0_0 : wr.cell? ⟨w.heap.size, 0, none⟩ = some (.int .u32 s1) := cell_of_row _ _ _ _ _ (0, 0) HBR.out.r0
      have c0_1 : wr.cell? ⟨w.heap.size, 1, none⟩ = some (.int .u32 s2) := cell_of_row _ _ _ _ _ (0, 0) HBR.out.r0
      have c0_2 : wr.cell? ⟨w.heap.size, 2, none⟩ = some (.int .u32 s3) := cell_of_row _ _ _ _ _ (0, 0) HBR.out.r0
      cases hbk : a.testBit k
      · rw [hbk, if_neg (by decide)] at hb
        go_wp2_with fail
        go_roundw
        case rel =>
          refine ⟨k + 1, by omega, by omega, by go_num, fun j h1 h2 => ?_, HBR.out⟩
          by_cases h : j = k
          · rw [h]; exact hbk
          · exact HNO.out j h1 (by omega)
        case measure => simp [intOf]; omega
      · rw [hbk, if_pos rfl] at hb
        have hR : abvR a f = (true, (k : Int) - (f : Int)) := by
          unfold abvR Cv.upF
          rw [find_first (k := k - f - 1) (by omega) (by rw [show f + 1 + (k - f - 1) = k by omega]; exact hbk) (fun j hj => HNO.out _ (by omega) (by omega))]
          simp only [Prod.mk.injEq, true_and]
          omega
        have HR := Lib.hid hR
        clear hR
        go_wp2_with fail
        exact bodyPost_ret (results_tmp2 Tryd.results42 _ _ _) rfl ⟨by rw [HR.out]; rfl, HBR.out.below⟩
    · have hke : k = 32 := by omega
      subst hke
      have hR : abvR a f = (false, 0) := by
        unfold abvR Cv.upF
        rw [find_no (fun j hj => HNO.out _ (by omega) (by omega))]
      have HR := Lib.hid hR
      clear hR
      go_wp2_with fail
      exact bodyPost_ret (results_tmp2 Tryd.results42 _ _ _) rfl ⟨by rw [HR.out]; rfl, HBR.out.below⟩
set_option maxHeartbeats 2000000 in
theorem refBelowS_any (f : Nat) (s : Stp) (w : World) (hf : f < 32) (hs : s.ok) :
    Calls Tryd.prog 43 #[s.agg, .int .i64 (f : Int)] w fun ee w' => ee = .returned (.tuple #[.bool (belR s.bits f).1, .int .i64 (belR s.bits f).2]) ∧ Below w.heap.size w w' := by
  have hbl := bits_lt hs
  have hbt := fun k => shr_bit (k := k) hbl
  obtain ⟨s1, s2, s3⟩ := s
  have e1 := u32_or_nat s1 s2 hs.1 hs.2.1
  have e2 := u32_or_nat (s1 ||| s2) s3 (Cs.or_lt hs.1 hs.2.1) hs.2.2
  have hbe : Stp.bits ⟨s1, ⟨s2, s3⟩⟩ = s1 ||| s2 ||| s3 := rfl
  rw [hbe] at hbl hbt ⊢
  simp only [Stp.agg]
  clear hs hbe
  generalize s1 ||| s2 = r at *
  generalize r ||| s3 = a at *
  have HBT := Lib.hid hbt
  clear hbt
  have HB0 := Lib.hid (bxs1 w (.cells #[.int .u32 s1, .int .u32 s2, .int .u32 s3] 30))
  go_enter Tryd.func43, Tryd.ntmps43
  go_wp2_with fail
  go_loopw [6] (fun vk wr => ∃ k : Int, -1 ≤ k ∧ k < (f : Int) ∧ vk = .int .i64 k ∧ (∀ j : Nat, k < (j : Int) → j < f → a.testBit j = false) ∧ Bx w [(w.heap.size, .cells #[.int .u32 s1, .int .u32 s2, .int .u32 s3] 30 (0, 0))] wr) (fun vk _ => (intOf vk + 1).toNat)
  case atStart => exact ⟨(f : Int) - 1, by omega, by omega, by go_num, fun j h1 h2 => absurd h1 (by omega), HB0.out⟩
  case round =>
    obtain ⟨k, hk1, hk2, rfl, hno, hbr⟩ := hrel
    have HBR := Lib.hid hbr
    clear hbr HB0
    have HNO := Lib.hid hno
    clear hno
    by_cases hk : 0 ≤ k
    · obtain ⟨k, rfl⟩ := Int.eq_ofNat_of_zero_le hk
      have hkI : decide ((k : Int) ≥ 0) = true := decide_eq_true (by omega)
      have hkw : min (IntKind.u64.wrap (k : Int)).toNat 32 = k := by rw [IntKind.wrap_u64]; omega
      have hb := HBT.out k
      have hsub : IntKind.i64.wrap ((f : Int) - (k : Int)) = (f : Int) - (k : Int) := by rw [IntKind.wrap_i64]; omega
      have hkm : IntKind.i64.wrap ((k : Int) - 1) = (k : Int) - 1 := by rw [IntKind.wrap_i64]; omega
      have c0_0 : wr.cell? ⟨w.heap.size, 0, none⟩ = some (.int .u32 s1) := cell_of_row _ _ _ _ _ (0, 0) HBR.out.r0
      have c0_1 : wr.cell? ⟨w.heap.size, 1, none⟩ = some (.int .u32 s2) := cell_of_row _ _ _ _ _ (0, 0) HBR.out.r0
      have c0_2 : wr.cell? ⟨w.heap.size, 2, none⟩ = some (.int .u32 s3) := cell_of_row _ _ _ _ _ (0, 0) HBR.out.r0
      cases hbk : a.testBit k
      · rw [hbk, if_neg (by decide)] at hb
        go_wp2_with fail
        go_roundw
        case rel =>
          refine ⟨(k : Int) - 1, by omega, by omega, by go_num, fun j h1 h2 => ?_, HBR.out⟩
          by_cases h : j = k
          · rw [h]; exact hbk
          · exact HNO.out j (by omega) h2
        case measure => first | (simp [intOf]; done) | (simp [intOf]; omega)
      · rw [hbk, if_pos rfl] at hb
        have hR : belR a f = (true, (f : Int) - (k : Int)) := by
          unfold belR Cv.dnF
          rw [find_first (k := f - k - 1) (by omega) (by rw [show f - 1 - (f - k - 1) = k by omega]; exact hbk) (fun j hj => HNO.out _ (by omega) (by omega))]
          simp only [Prod.mk.injEq, true_and]
          omega
        have HR := Lib.hid hR
        clear hR
        go_wp2_with fail
        exact bodyPost_ret (results_tmp2 Tryd.results43 _ _ _) rfl ⟨by rw [HR.out]; rfl, HBR.out.below⟩
    · have hkB : decide (k ≥ 0) = false := decide_eq_false (by omega)
      have hR : belR a f = (false, 0) := by
        unfold belR Cv.dnF
        rw [find_no (fun j hj => HNO.out _ (by omega) (by omega))]
      have HR := Lib.hid hR
      clear hR
      go_wp2_with fail
      exact bodyPost_ret (results_tmp2 Tryd.results43 _ _ _) rfl ⟨by rw [HR.out]; rfl, HBR.out.below⟩
end Go.Proofs.YteniimbcbjbegaaDoor
