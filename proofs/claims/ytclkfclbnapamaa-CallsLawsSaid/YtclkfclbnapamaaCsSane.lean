/- The sanity check of the layer's laws. No statement of the seat is proved here. -/
import Derived.Test.YtclkfclbnapamaaCsOf
import Derived.Test.YtclkfclbnapamaaCsRefList
namespace Go.Proofs.Ytclkfclbnapamaa
open Go.RowKit

theorem ents54 : Cs.ents ⟨5, 4⟩ = [⟨0, 1, -1, 0, false⟩, ⟨2, 1, -1, 0, false⟩, ⟨2, 2, -1, 0, false⟩] := by kernel_rfl
theorem above54 : Cs.above ⟨5, 4⟩ 0 = ⟨4, 4⟩ := by kernel_rfl
theorem has54 : Cs.has ⟨5, 4⟩ 0 1 = true := by kernel_rfl
theorem count54 : Cs.count ⟨5, 4⟩ = 3 := by kernel_rfl
theorem ok54 : Cs.ok ⟨5, 4⟩ := by constructor <;> decide

set_option maxHeartbeats 2000000 in
theorem sane_any (w : World) : Calls Try.prog 17 #[] w fun e w' => e = .returned (.bool true) ∧ Below w.heap.size w w' := by
  have FL := Lib.hid (fun w => list_any ⟨5, 4⟩ w ok54)
  have FC := Lib.hid (fun w => count_any ⟨5, 4⟩ w ok54)
  have FA := Lib.hid (fun w => above_any ⟨5, 4⟩ 0 w ok54)
  have FH := Lib.hid (fun w => has_any ⟨5, 4⟩ 0 1 w ok54)
  rw [ents54] at FL
  rw [above54] at FA
  rw [has54] at FH
  rw [count54] at FC
  simp only [Cs.agg] at *
  go_enter Try.func17, Try.ntmps17
  go_wp2_with fail
  refine (FL.out _).mono ?_
  rintro e w1 ⟨v, rfl, ⟨A, cap, rfl, hA⟩, hb⟩
  obtain ⟨b, off, rfl, hbl, r0, r1, r2, r3, r4⟩ := hA.at_ (k := 2) (by decide)
  simp only [List.getElem_cons_succ, List.getElem_cons_zero] at r0 r1 r2 r3 r4
  have hb1 : Below (w.heap.size + 1) (w.alloc (.cells #[.int .u32 5, .int .u32 4] 24)) w1 := hb.mono (by simp)
  have k0 : w1.cell? ⟨w.heap.size, 0, none⟩ = some (.int .u32 5) := cell_new_below hb1 0
  have k1 : w1.cell? ⟨w.heap.size, 1, none⟩ = some (.int .u32 4) := cell_new_below hb1 1
  have HB := Lib.hid hb1
  clear hb hb1 hA
  go_wp2_with fail
  clear r0 r1 r2 r3 r4 hbl
  refine (FC.out _).mono ?_
  rintro e w2 ⟨rfl, hb⟩
  have hb2 := HB.out.trans (hb.mono (size1 HB.out))
  clear k0 k1
  have k0 : w2.cell? ⟨w.heap.size, 0, none⟩ = some (.int .u32 5) := cell_new_below hb2 0
  have k1 : w2.cell? ⟨w.heap.size, 1, none⟩ = some (.int .u32 4) := cell_new_below hb2 1
  have HB2 := Lib.hid hb2
  clear hb hb2
  go_wp2_with fail
  refine (FA.out _).mono ?_
  rintro e w3 ⟨rfl, hb⟩
  have hb3 := HB2.out.trans (hb.mono (size1 HB2.out))
  clear k0 k1
  have k0 : w3.cell? ⟨w.heap.size, 0, none⟩ = some (.int .u32 5) := cell_new_below hb3 0
  have k1 : w3.cell? ⟨w.heap.size, 1, none⟩ = some (.int .u32 4) := cell_new_below hb3 1
  have HB3 := Lib.hid hb3
  clear hb hb3
  go_wp2_with fail
  refine (FH.out _).mono ?_
  rintro e w4 ⟨rfl, hb⟩
  have HB4 := Lib.hid (HB3.out.trans (hb.mono (size1 HB3.out)))
  clear hb k0 k1
  go_wp2_with fail
  go_ret
  exact ⟨rfl, below_of_new HB4.out⟩
end Go.Proofs.Ytclkfclbnapamaa
