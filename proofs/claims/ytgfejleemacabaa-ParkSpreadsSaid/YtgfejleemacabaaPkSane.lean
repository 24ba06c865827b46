/- The sanity check of stage 14's laws. No statement of the seat is proved here. -/
import Derived.Test.YtgfejleemacabaaPkMove
import Derived.Test.YtgfejleemacabaaPkSpread
namespace Go.Proofs.Ytgfejleemacabaa
open Go.RowKit

theorem valid92 : validE (sampleD 9 2) = 0 := sample_valid 9 2 (by decide) (by decide) (by decide) (by decide)
theorem move92a : moveF (sampleD 9 2) 1 30 5 = 2 := by
  rw [moveF, if_pos ⟨valid92, by decide, by decide, by decide⟩]
  decide
theorem move92b : moveF (sampleD 9 2) 1 29 5 = 0 := moveF_bad (fun h => absurd h.2.2.2 (by decide))
theorem spread92 : spreadF (sampleD 9 2) = [2, 6] := by
  rw [spreadF_good valid92]
  decide

set_option maxHeartbeats 2000000 in
theorem sane_any (w : World) : Calls Try.prog 6 #[] w fun e w' => e = .returned (.bool true) ∧ Below w.heap.size w w' := by
  have hB : ∀ wx, Calls Try.prog 7 #[.int .u8 38] wx fun e w' => Below wx.heap.size wx w' ∧ ∃ A cap, e = .returned ((sampleD 9 2).agg A cap) ∧ CarsAt w' w'.heap.size A (sampleD 9 2).cars := fun wx => building_any 38 wx (by omega)
  have hM : ∀ A cap i wx, CarsAt wx wx.heap.size A (sampleD 9 2).cars → Calls Try.prog 8 #[(sampleD 9 2).agg A cap, .int .i64 1, .int .i64 i, .int .i64 5] wx fun e w' => e = .returned (.int .i64 (moveF (sampleD 9 2) 1 i 5)) ∧ Below wx.heap.size wx w' := fun A cap i wx h => move_any (sampleD 9 2) A cap 1 i 5 wx (by simp [sampleD, sampleCars_length]) h
  have hS : ∀ A cap wx, CarsAt wx wx.heap.size A (sampleD 9 2).cars → Calls Try.prog 10 #[(sampleD 9 2).agg A cap] wx fun e w' => ∃ v, e = .returned v ∧ VV w' v (nums (spreadF (sampleD 9 2))) ∧ Below wx.heap.size wx w' := fun A cap wx h => spread_any (sampleD 9 2) A cap wx (by simp [sampleD, sampleCars_length]) h
  rw [spread92] at hS
  have hM1 := fun A cap wx h => hM A cap 30 wx h
  have hM2 := fun A cap wx h => hM A cap 29 wx h
  rw [move92a] at hM1
  rw [move92b] at hM2
  have hp : (sampleD 9 2).park = 30 := rfl
  clear hM
  generalize sampleD 9 2 = b at *
  obtain ⟨f, d, r, p, e1, e2, e3, cs⟩ := b
  simp only at hp
  subst hp
  simp only [BldD.agg] at hB hM1 hM2 hS
  have FB := Lib.hid hB
  have FM1 := Lib.hid hM1
  have FM2 := Lib.hid hM2
  have FS := Lib.hid hS
  clear hB hM1 hM2 hS
  go_enter Try.func6, Try.ntmps6
  go_wp2_with fail
  refine (FB.out _).mono ?_
  rintro e w1 ⟨hb1, A, cap, rfl, hcars⟩
  have HB1 := Lib.hid hb1
  have HBX := Lib.hid (BX.new (f := f) (d := d) (r := r) (p := 30) (e1 := e1) (e2 := e2) (e3 := e3) (cap := cap) hcars)
  have HZ := Lib.hid (((Below.refl w1.heap.size w1).alloc (Nat.le_refl _) (.cells #[.int .i64 f, .int .i64 d, .int .i64 r, .int .i64 30, .float .f64 e1, .float .f64 e2, .float .f64 e3, .slice A cs.length cap] 25)))
  clear hcars hb1
  go_wp2_with fail
  refine (FS.out A cap _ HBX.out.cars).mono ?_
  rintro e w2 ⟨v, rfl, hv, hb2⟩
  have HBX2 := Lib.hid (HBX.out.below hb2)
  have HZ2 := Lib.hid (HB1.out.trans ((HZ.out.trans (hb2.mono (by simp))).mono HB1.out.size))
  obtain ⟨B, vc, rfl, hv⟩ := hv
  have HV := Lib.hid hv
  obtain ⟨c0, c1, c2, c3, c4, c5, c6, c7⟩ := HBX2.out.cells
  clear hb2 HBX HB1 hv HZ
  rw [show (nums [2, 6]).length = 2 from rfl]
  go_wp2_with fail
  refine (FM1.out A cap _ HBX2.out.cars).mono ?_
  rintro e w3 ⟨rfl, hb3⟩
  have HBX3 := Lib.hid (HBX2.out.below hb3)
  have HV3 := Lib.hid (HV.out.below hb3)
  have HZ3 := Lib.hid (HZ2.out.trans (hb3.mono HZ2.out.size))
  clear c0 c1 c2 c3 c4 c5 c6 c7 hb3 HBX2 HV HZ2
  obtain ⟨c0, c1, c2, c3, c4, c5, c6, c7⟩ := HBX3.out.cells
  go_wp2_with fail
  refine (FM2.out A cap _ HBX3.out.cars).mono ?_
  rintro e w4 ⟨rfl, hb4⟩
  have HZ4 := Lib.hid (HZ3.out.trans (hb4.mono HZ3.out.size))
  obtain ⟨g, o, rfl, hg, x0⟩ := (HV3.out.below hb4).num (k := 0) (by decide)
  obtain ⟨g', o', heq, -, x1⟩ := (HV3.out.below hb4).num (k := 1) (by decide)
  simp only [Option.some.injEq, Addr.mk.injEq, and_true] at heq
  obtain ⟨rfl, rfl⟩ := heq
  simp only [Nat.add_zero, List.getElem_cons_zero, List.getElem_cons_succ] at x0 x1
  clear c0 c1 c2 c3 c4 c5 c6 c7 hb4
  go_wp2_with fail
  go_ret
  exact ⟨rfl, HZ4.out⟩
end Go.Proofs.Ytgfejleemacabaa
