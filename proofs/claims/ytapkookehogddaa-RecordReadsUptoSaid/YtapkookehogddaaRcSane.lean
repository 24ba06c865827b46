/- The sanity check of the laws of records. No statement of the seat is proved here. -/
import Derived.Test.YtapkookehogddaaRcCode
import Derived.Test.YtapkookehogddaaRcDec
import Derived.Test.YtapkookehogddaaBldOnly
namespace Go.Proofs.Ytapkookehogddaa
open Go.RowKit

def Rc.one : Rc := ⟨1, 3, 1, 0, 0⟩
theorem Rc.one_ok : Rc.okB (sampleD 9 4) Rc.one = true := Rc.recAt_ok (F := 9) (C := 4) (by omega) (by omega) (by omega) (by omega) (n := 0) (v := 6) (by omega)
theorem dec_nil {b : BldD} (hv : validE b = 0) : Rc.decE b [] = 4 ∧ Rc.decR b [] = Rc.zero := by
  have h : Rc.decE b [] = 4 := by unfold Rc.decE; rw [if_neg (fun h => h hv), if_pos (by decide)]
  exact ⟨h, by unfold Rc.decR; rw [if_neg (by rw [h]; decide)]⟩
theorem one_cut : (⟨(Rc.six Rc.one).toArray⟩ : ByteArray).size = 6 ∧ (⟨(Rc.six Rc.one).toArray⟩ : ByteArray).extract 0 5 = ⟨#[1, 3, 1, 2, 0]⟩ := by
  refine ⟨by show (Rc.six Rc.one).toArray.size = 6; rw [List.size_toArray, Rc.six_len], ?_⟩
  apply ba_ext
  rw [ba_cut]
  rfl

set_option maxRecDepth 100000 in
set_option maxHeartbeats 2000000 in
theorem sane9_any (w : World) : Calls Try.prog 7 #[] w fun e w' => e = .returned (.bool true) ∧ Below w.heap.size w w' := by
  have hB := building_any 100 w (by omega)
  have e1 : ((2 + 100 % 31 : Nat) : Int) = 9 := by decide
  have e2 : 1 + 100 / 31 % 8 = 4 := by decide
  rw [e1, e2] at hB
  have HBD := Lib.hid hB
  clear hB e1 e2
  have hV := sample_valid 9 4 (by omega) (by omega) (by omega) (by omega)
  have HO := Rc.one_ok
  have hl : sampleCars 9 4 = (sampleD 9 4).cars := rfl
  rw [hl] at HBD
  have hcl : (sampleD 9 4).cars.length = 4 := by rw [← hl, sampleCars_length]
  generalize sampleD 9 4 = b at *
  clear hl
  have hx1 : Rc.encS b Rc.one = ⟨(Rc.six Rc.one).toArray⟩ := by unfold Rc.encS; rw [HO]; rfl
  have hx2 : Rc.encE b Rc.one = 0 := by unfold Rc.encE; rw [HO]; rfl
  have hx3 := Rc.decE_six HO
  have hx4 := Rc.decR_six HO
  obtain ⟨hx5, hx6⟩ := dec_nil hV
  obtain ⟨hs6, hs5⟩ := one_cut
  have hbl : bl ⟨(Rc.six Rc.one).toArray⟩ = Rc.six Rc.one := rfl
  have hbn : bl ⟨#[]⟩ = [] := rfl
  have FE := Lib.hid (fun A cap wx (hc : CarsAt wx wx.heap.size A b.cars) => encode_any b A cap Rc.one wx (by omega) hc)
  have FD := Lib.hid (fun A cap wx (hc : CarsAt wx wx.heap.size A b.cars) => decode_any b A cap ⟨(Rc.six Rc.one).toArray⟩ wx (by omega) hc (by rw [hs6]; unfold maxLen; omega))
  have FN := Lib.hid (fun A cap wx (hc : CarsAt wx wx.heap.size A b.cars) => decode_any b A cap ⟨#[]⟩ wx (by omega) hc (by decide))
  rw [hx1, hx2] at FE
  rw [hbl, hx3, hx4] at FD
  rw [hbn, hx5, hx6] at FN
  clear hx1 hx2 hx3 hx4 hx5 hx6 hbl hbn HO
  generalize (⟨(Rc.six Rc.one).toArray⟩ : ByteArray) = S at *
  obtain ⟨f, d, r, p, e1, e2, e3, cs⟩ := b
  simp only [BldD.agg, Rc.agg, Rc.one, Rc.zero] at *
  clear hV hcl
  go_enter Try.func7, Try.ntmps7
  go_wp2_with fail
  refine HBD.out.mono ?_
  rintro e w1 ⟨hb1, A, cap, rfl, hcars⟩
  have HC := Lib.hid hcars
  have HB1 := Lib.hid hb1
  clear hcars hb1
  go_wp2_with fail
  refine (FE.out _ _ _ (HC.out.below (by go_grown) |>.more (by simp))).mono ?_
  rintro e w2 ⟨rfl, hb⟩
  have hx : Below (w1.heap.size + 1) (w1.alloc (.cells #[.int .i64 f, .int .i64 d, .int .i64 r, .int .i64 p, .float .f64 e1, .float .f64 e2, .float .f64 e3, .slice A cs.length cap] 28)) w2 := hb.mono (by simp)
  obtain ⟨c0, c1, c2, c3, c4, c5, c6, c7⟩ := boxRow ((hx.block w1.heap.size (by simp)).trans (heap_alloc_new w1 _))
  have hz2 := box_size hx
  have HX2 := Lib.hid hx
  clear hb hx
  go_wp2_with fail
  refine (FD.out _ _ _ ((HC.out.below (below_of_new HX2.out)).more (by omega))).mono ?_
  rintro e w3 ⟨rfl, hb⟩
  clear c0 c1 c2 c3 c4 c5 c6 c7
  have hx := HX2.out.trans (hb.mono hz2)
  obtain ⟨c0, c1, c2, c3, c4, c5, c6, c7⟩ := boxRow ((hx.block w1.heap.size (by simp)).trans (heap_alloc_new w1 _))
  have hz3 := box_size hx
  have HX3 := Lib.hid hx
  clear hb hx
  have hne : ¬ w1.heap.size = w3.heap.size := by omega
  have hg3 : w1.heap.size < w3.heap.size := by omega
  go_wp2_with fail
  have HX4 := Lib.hid (HX3.out.alloc (by omega) (.cells #[.int .i64 1, .int .i64 3, .int .i64 1, .int .i64 0, .int .i64 0] 23))
  refine (FN.out _ _ _ ((HC.out.below (below_of_new HX4.out)).more (by simp; omega))).mono ?_
  rintro e w4 ⟨rfl, hb⟩
  have hr := (hb.block w3.heap.size (by simp)).trans (heap_alloc_new w3 _)
  obtain ⟨k0, k1, k2, k3, k4⟩ := recRow hr
  have hx := HX4.out.trans (hb.mono (by simp; omega))
  have HX5 := Lib.hid hx
  have hz5 := hb.size
  simp at hz5
  have hg5 : w3.heap.size < w4.heap.size := by omega
  have hne5 : ¬ w3.heap.size = w4.heap.size := by omega
  clear hb hx c0 c1 c2 c3 c4 c5 c6 c7 hr
  go_wp2
  go_ret
  exact ⟨rfl, HB1.out.trans ((below_of_new (HX5.out.alloc (by omega) _)).mono HB1.out.size)⟩
end Go.Proofs.Ytapkookehogddaa
