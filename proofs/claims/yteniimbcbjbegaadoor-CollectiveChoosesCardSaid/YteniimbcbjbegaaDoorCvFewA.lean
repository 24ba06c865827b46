/- few of stage 11's laws. No statement of the seat is proved here. -/
import Derived.Test.YteniimbcbjbegaaDoorCvCount
namespace Go.Proofs.YteniimbcbjbegaaDoor
open Go.RowKit

def fewF (s : Stp) (m : Nat) : Stp := ⟨s.car &&& m, ⟨s.h.up &&& m, s.h.dn &&& m⟩⟩
theorem fewF_ok {s : Stp} (h : s.ok) (m : Nat) : (fewF s m).ok := ⟨Cs.and_lt h.1, Cs.and_lt h.2.1, Cs.and_lt h.2.2⟩
set_option maxHeartbeats 1000000 in
theorem few_any (k : Nat) (hk : k < 32) (s : Stp) (w : World) (hs : s.ok) :
    Calls Tryd.prog 9 #[s.agg, .int .i64 (k : Int)] w fun e w' => e = .returned (fewF s (2 ^ k - 1)).agg ∧ Below w.heap.size w w' := by
  have ha : ((2 : Int) ^ k % 4294967296 - 1) % 4294967296 = ((2 ^ k - 1 : Nat) : Int) := all_int (F := k) (by omega)
  have hlt : 2 ^ k - 1 < 4294967296 := Cv.all_lt (F := k) (by omega)
  have hkn : decide ((k : Int) < 0) = false := decide_eq_false (by omega)
  have hR : (fewF s (2 ^ k - 1)).agg = .agg #[.int .u32 ((s.car &&& (2 ^ k - 1) : Nat) : Int), .int .u32 ((s.h.up &&& (2 ^ k - 1) : Nat) : Int), .int .u32 ((s.h.dn &&& (2 ^ k - 1) : Nat) : Int)] := rfl
  rw [hR]
  clear hR
  generalize 2 ^ k - 1 = m at *
  have e1 := u32_and_nat s.car m hs.1 hlt
  have e2 := u32_and_nat s.h.up m hs.2.1 hlt
  have e3 := u32_and_nat s.h.dn m hs.2.2 hlt
  obtain ⟨s0, ⟨s1, s2⟩⟩ := s
  simp only [Stp.agg] at *
  clear hs
  go_enter Tryd.func9, Tryd.ntmps9
  go_wp2
  exact bodyPost_ret (results_cell_row Tryd.results9 _ _ _ _ _ (0, 0) _ rfl (last2 _ _ _) Tryd.underlying30 rfl (by kernel_rfl)) rfl (⟨by first | rfl | (rw [← e1, ← e2, ← e3, ← ha]; rfl), by go_grown⟩)
end Go.Proofs.YteniimbcbjbegaaDoor
