/- The law's sanity check. No statement of the seat is proved here. -/
import Derived.Test.YtimaidiabjkgkaaDoorIndDecode
import Derived.Test.YtimaidiabjkgkaaDoorIndShows
namespace Go.Proofs.YtimaidiabjkgkaaDoor
open Go.RowKit

theorem sane_d : Ind.decode 4 ⟨4, true, false, true, false⟩ = ⟨2, 1, 1⟩ := by decide +kernel
theorem sane_s : Ind.shows 4 ⟨2, 1, 1⟩ = (4, 0) := by decide +kernel
set_option maxHeartbeats 2000000 in
theorem sane_any (w : World) (hT : Tabs w) :
    Calls Tryd.prog 10 #[] w fun e w' => e = .returned (.bool true) ∧ Below w.heap.size w w' := by
  have HT := Lib.hid (fun (w1 : World) (hb : Below w.heap.size w w1) => hT.below hb)
  have F := Lib.hid (fun w hT => decode_any 4 ⟨4, true, false, true, false⟩ w (by show (4 : Nat) < 4294967296; decide) hT)
  have S := Lib.hid (fun w => shows_any 4 ⟨2, 1, 1⟩ w)
  have G1 := Lib.hid (fun w hT => floor_any 4 4 (by decide) w hT)
  have G2 := Lib.hid (fun w hT => floor_any 4 6 (by decide) w hT)
  have G3 := Lib.hid (fun w hT => floor_any 4 16 (by decide) w hT)
  rw [sane_d] at F
  rw [sane_s] at S
  rw [show Ind.floorI 4 4 = 2 by decide +kernel] at G1
  rw [show Ind.floorI 4 6 = -1 by decide +kernel] at G2
  rw [show Ind.floorI 4 16 = -1 by decide +kernel] at G3
  simp only [Ob.agg, Ct.agg, Cl] at F S
  go_enter Tryd.func10, Tryd.ntmps10
  go_wp2_with fail
  refine (F.out _ hT).mono ?_
  rintro e w1 ⟨rfl, hb1⟩
  have T1 := HT.out _ hb1
  go_wp2_with fail
  refine (G1.out _ ?hT1).mono ?_
  case hT1 => exact T1.below ((Below.refl _ _).alloc (Nat.le_refl _) _)
  rintro e w2 ⟨rfl, hb2⟩
  have hz2 : Lit (w1.heap.size) w1 w1.heap.size (.cells #[.int .i64 2, .int .i64 1, .int .i64 1] 31) w2 := (Lit.one w1 _).next hb2
  have T2 := T1.below hz2.below
  clear hb2
  go_wp2_with fail
  refine (G2.out _ T2).mono ?_
  rintro e w3 ⟨rfl, hb3⟩
  have hz3 := hz2.next hb3
  have T3 := T2.below hb3
  clear hb3 hz2
  go_wp2_with fail
  refine (G3.out _ T3).mono ?_
  rintro e w4 ⟨rfl, hb4⟩
  have hz4 := hz3.next hb4
  clear hb4 hz3
  have c0 := hz4.cell 0
  have c1 := hz4.cell 1
  have c2 := hz4.cell 2
  simp only [List.getElem?_toArray, List.getElem?_cons_zero, List.getElem?_cons_succ] at c0 c1 c2
  have HB := Lib.hid (hb1.trans (hz4.below.mono hb1.size))
  clear hz4 hb1 T1 T2 T3
  go_wp2_with fail
  refine (S.out _).mono ?_
  rintro e w5 ⟨rfl, hb5⟩
  have HB5 := Lib.hid (HB.out.trans (hb5.mono HB.out.size))
  clear hb5
  go_wp2_with fail
  go_ret
  exact ⟨rfl, HB5.out⟩
end Go.Proofs.YtimaidiabjkgkaaDoor
