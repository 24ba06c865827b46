/- The law LogSnapshots: the records of a snapshot make the image again, out of Initial. No condition. -/
import Derived.Test.YtmonbldmgmmnbaaLgSb
import Derived.Deep.CutRange
import Derived.Deep.CutBlock
namespace Go.Proofs.Ytmonbldmgmmnbaa
open Go.RowKit GhostV Bag Lg Img Go.ChangeShapes Go.WideShapes Go.ChangeAt Go.Deep

set_option maxRecDepth 100000 in
set_option maxHeartbeats 8000000 in
theorem logSnapshots_any (n : Nat) (ns : List Nat) (vl : Value) (w : World) (hn : n < 256) (hns : ∀ z ∈ ns, z < 256) (hnl : ns.length ≤ maxLen) (hv : VV w vl (u8s ns)) :
    Calls Try.prog 3 #[.int .u8 n, vl] w fun e w' => e = .returned (.bool true) ∧ Below w.heap.size w w' := by
  obtain ⟨F, hF⟩ : ∃ F, F = 2 + n % 7 := ⟨_, rfl⟩
  obtain ⟨C, hC⟩ : ∃ C, C = 1 + n / 7 % 3 := ⟨_, rfl⟩
  have hF1 : 2 ≤ F := by omega
  have hF2 : F ≤ 32 := by omega
  have hC1 : 1 ≤ C := by omega
  have hC2 : C ≤ 3 := by omega
  have FB := Lib.hid (fun wx => building10_any n 200 wx hn (by decide))
  rw [← hF, ← hC] at FB
  clear hF hC
  have hok : ∀ r ∈ Rc.recL F C ns (min (ns.length / 2) 60), Rc.okB (bldR (F : Int) C 200) r = true := fun r hr => okB_bldR hF1 hF2 hC1 (by omega) (by omega) (Rc.recL_ok hF1 hF2 hC1 (by omega) hns _ r hr)
  have hvb : validE (bldR (F : Int) C 200) = 0 := bldR_valid F C 200 (by omega) (by omega) hC1 (by omega) (by omega)
  have hbl : (bldR (F : Int) C 200).cars.length = C := by simp [bldR, sampleD, sampleCars_length]
  have FM := Lib.hid (fun A cap wx (hc : CarsAt wx wx.heap.size A (bldR (F : Int) C 200).cars) (hV : VV wx vl (u8s ns)) => image10_any (bldR (F : Int) C 200) A cap F C rfl hbl hF1 hF2 hC1 (by omega) hvb ns hns hnl vl wx hc hV hok)
  have hgm := rep_good hvb hok
  have hem := Nat.le_trans (rep_enl (bldR (F : Int) C 200) (Rc.recL F C ns (min (ns.length / 2) 60))) (show (Rc.recL F C ns (min (ns.length / 2) 60)).length ≤ 60 by rw [Rc.recL_len]; omega)
  generalize rep (bldR (F : Int) C 200) (Rc.recL F C ns (min (ns.length / 2) 60)) = m at *
  generalize bldR (F : Int) C 200 = b at *
  clear hok hns hnl hF1 hF2
  have hmp := hgm.ph
  have hmf := hgm.fl
  have hml := hgm.lv
  have FS := Lib.hid (fun A cap pv fv lv ev wx (hc : CarsAt wx wx.heap.size A b.cars) (h : ImV wx pv fv lv ev m) => snap_any b A cap pv fv lv ev m wx (by omega) hc h (by omega) (by omega))
  rw [show snapF b m = snapM m from if_pos (isB_iff.2 hgm)] at FS
  have FI := Lib.hid (fun A cap wx (hc : CarsAt wx wx.heap.size A b.cars) => initGood_any b A cap wx hc hvb)
  have hlen := snapM_len m
  rw [hmp, hbl] at hlen
  have hXl : (snapM m).length ≤ 300 := by omega
  have hXok := snap_ok hgm
  have hfold : rep b (snapM m) = m := snap_fold hgm
  generalize snapM m = X at *
  have HXE := Lib.hid (show rep b (X.take X.length) = m by rw [List.take_length]; exact hfold)
  have HZ := Lib.hid (show rep b (X.take 0) = Img.init b.cars.length from rfl)
  have HNX := Lib.hid (fun k (hk : k < X.length) => rep_take b hk)
  have FA := Lib.hid (fun k (hk : k < X.length) A cap pv fv lv ev wx (hc : CarsAt wx wx.heap.size A b.cars) (h : ImV wx pv fv lv ev (rep b (X.take k))) => applyGood_any b A cap pv fv lv ev (rep b (X.take k)) X[k] wx hc h (Nat.le_trans (rep_enl b (X.take k)) (by rw [List.length_take]; omega)) (rep_good hvb (fun r hr => hXok r (List.mem_of_mem_take hr))) (hXok _ (List.getElem_mem hk)))
  have FE := Lib.hid (fun pv fv lv ev pv' fv' lv' ev' wx (ha : ImV wx pv fv lv ev m) (hb : ImV wx pv' fv' lv' ev' m) => refSame10_any m m pv fv lv ev pv' fv' lv' ev' wx ha hb (by omega) (by omega) (by omega) (by omega) (by omega) (by omega) (by omega) (by omega))
  rw [show imEq m m = true from (imEq_iff _ _).2 rfl] at FE
  have FN := Lib.hid (fun wx => sane10_any wx)
  generalize hM : (fun k => rep b (X.take k)) = M at *
  have hM' : ∀ k, rep b (X.take k) = M k := fun k => congrFun hM k
  simp only [hM'] at HXE HZ HNX FA
  clear hM hM' hfold hXok hmp hmf hml hgm hvb
  generalize Img.init b.cars.length = i0 at *
  have hlB : ((X.length : Int) == 3 * ((b.cars.length : Int) + (m.en.length : Int))) = true := by rw [hbl, hlen]; simp
  have hlw1 : IntKind.i64.wrap ((b.cars.length : Int) + (m.en.length : Int)) = (b.cars.length : Int) + (m.en.length : Int) := by rw [IntKind.wrap_i64]; omega
  have hlw2 : IntKind.i64.wrap (3 * ((b.cars.length : Int) + (m.en.length : Int))) = 3 * ((b.cars.length : Int) + (m.en.length : Int)) := by rw [IntKind.wrap_i64]; omega
  have HLB := Lib.hid (And.intro hlB (And.intro hlw1 hlw2))
  clear hlB hlw1 hlw2 hlen hbl hem hC1 hC2
  obtain ⟨bf, bd, br, bp, be1, be2, be3, cs⟩ := b
  simp only [BldD.agg] at *
  generalize hncs : cs.length = ncs at *
  have HV := Lib.hid hv
  clear hv hncs
  go_enter Try.func3, Try.ntmps3
  go_wp2_with fail
  refine (FB.out _).mono ?_
  rintro e u0 ⟨hb0, A, cap, rfl, hcars⟩
  have HC := Lib.hid hcars
  have HBW := Lib.hid hb0
  clear hcars hb0
  have HB0 : Hid (Bx u0 [] u0) := Lib.hid ⟨Below.refl _ _, fun p hp => by simp at hp⟩
  have HCX := Lib.hid (fun wx (hb : Below u0.heap.size u0 wx) => show CarsAt wx wx.heap.size A cs from (HC.out.below hb).more hb.size)
  have HVX := Lib.hid (fun wx (hb : Below u0.heap.size u0 wx) => (HV.out.below HBW.out).below hb)
  clear HV HC
  go_wp2_with (with_reducible show wpList _ _ _ (Oper.mk _ (.store 26 _ _) _ _ _ _ :: _) _ _; refine Hid.out ?_)
  refine Lib.hid ?_
  refine wpList_put rfl 26 _ _ rfl u0.heap.size #[.int .i64 bf, .int .i64 bd, .int .i64 br, .int .i64 bp, .float .f64 be1, .float .f64 be2, .float .f64 be3, .slice A ncs cap] _ 26 rfl rfl (heap_alloc_new u0 _) (by kernel_rfl) rfl (by kernel_rfl) ?_
  intro w1 hr1 hg1
  have HB1 : Hid (Bx u0 [(u0.heap.size, .cells #[.int .i64 bf, .int .i64 bd, .int .i64 br, .int .i64 bp, .float .f64 be1, .float .f64 be2, .float .f64 be3, .slice A ncs cap] 26 (0, 0))] w1) := Lib.hid ((HB0.out.make (heap_alloc_new u0 (.cells #[.int .i64 0, .int .i64 0, .int .i64 0, .int .i64 0, .float .f64 0, .float .f64 0, .float .f64 0, .slice none 0 0] 26)) ((Below.refl u0.heap.size u0).alloc (Nat.le_refl _) _)).put HB0.out.below.size hg1.out hr1.out (by simp only [List.mem_cons, List.not_mem_nil, or_false]; rintro p rfl <;> simp <;> omega))
  clear hr1 hg1 HB0
  have c0_0 : w1.cell? ⟨u0.heap.size, 0, none⟩ = some (.int .i64 bf) := cell_of_row _ _ _ _ _ (0, 0) HB1.out.r0
  have c0_1 : w1.cell? ⟨u0.heap.size, 1, none⟩ = some (.int .i64 bd) := cell_of_row _ _ _ _ _ (0, 0) HB1.out.r0
  have c0_2 : w1.cell? ⟨u0.heap.size, 2, none⟩ = some (.int .i64 br) := cell_of_row _ _ _ _ _ (0, 0) HB1.out.r0
  have c0_3 : w1.cell? ⟨u0.heap.size, 3, none⟩ = some (.int .i64 bp) := cell_of_row _ _ _ _ _ (0, 0) HB1.out.r0
  have c0_4 : w1.cell? ⟨u0.heap.size, 4, none⟩ = some (.float .f64 be1) := cell_of_row _ _ _ _ _ (0, 0) HB1.out.r0
  have c0_5 : w1.cell? ⟨u0.heap.size, 5, none⟩ = some (.float .f64 be2) := cell_of_row _ _ _ _ _ (0, 0) HB1.out.r0
  have c0_6 : w1.cell? ⟨u0.heap.size, 6, none⟩ = some (.float .f64 be3) := cell_of_row _ _ _ _ _ (0, 0) HB1.out.r0
  have c0_7 : w1.cell? ⟨u0.heap.size, 7, none⟩ = some (.slice A ncs cap) := cell_of_row _ _ _ _ _ (0, 0) HB1.out.r0
  go_wp2_with fail
  refine (FM.out A cap _ (HCX.out _ HB1.out.below) (HVX.out _ HB1.out.below)).mono ?_
  rintro e w2 ⟨pv, fv, lv, ev, rfl, hI0, hb2⟩
  have HB2 := Lib.hid (HB1.out.next hb2)
  clear c0_0 c0_1 c0_2 c0_3 c0_4 c0_5 c0_6 c0_7 hb2 HB1
  have hI := hI0.mono (Nat.zero_le _)
  clear hI0
  obtain ⟨D1, d1, rfl⟩ := own_slice hI.p
  obtain ⟨D2, d2, rfl⟩ := own_slice hI.f
  obtain ⟨D3, d3, rfl⟩ := own_slice hI.l
  obtain ⟨D4, d4, rfl⟩ := own_slice hI.e
  have HIq := Lib.hid hI
  clear hI
  have ld0 : u0.heap.size < w2.heap.size := (Array.getElem?_eq_some_iff.1 HB2.out.r0).1
  go_wp2_with (with_reducible show wpList _ _ _ (Oper.mk _ (.store 32 _ _) _ _ _ _ :: _) _ _; refine Hid.out ?_)
  refine Lib.hid ?_
  refine wpList_put rfl 32 _ _ rfl w2.heap.size #[.slice D1 m.ph.length d1, .slice D2 m.fl.length d2, .slice D3 m.lv.length d3, .slice D4 m.en.length d4] _ 32 rfl rfl (heap_alloc_new w2 _) (by kernel_rfl) rfl (by kernel_rfl) ?_
  intro w3 hr3 hg3
  have hbd3 : Below w2.heap.size w2 w3 := ((Below.refl w2.heap.size w2).alloc (Nat.le_refl _) _).grown hg3.out (by simp) (fun k hk => by injection hk with hk; omega)
  have lw3 : u0.heap.size ≤ w2.heap.size := HB2.out.below.size
  have HD := Lib.hid (HIq.out.below hbd3)
  have HB3 := Lib.hid (HB2.out.make hr3.out hbd3)
  clear hr3 hg3 hbd3 HB2 HIq
  generalize w2.heap.size = gm at *
  have c0_0 : w3.cell? ⟨gm, 0, none⟩ = some (.slice D1 m.ph.length d1) := cell_of_row _ _ _ _ _ (0, 0) HB3.out.r0
  have c0_1 : w3.cell? ⟨gm, 1, none⟩ = some (.slice D2 m.fl.length d2) := cell_of_row _ _ _ _ _ (0, 0) HB3.out.r0
  have c0_2 : w3.cell? ⟨gm, 2, none⟩ = some (.slice D3 m.lv.length d3) := cell_of_row _ _ _ _ _ (0, 0) HB3.out.r0
  have c0_3 : w3.cell? ⟨gm, 3, none⟩ = some (.slice D4 m.en.length d4) := cell_of_row _ _ _ _ _ (0, 0) HB3.out.r0
  have c1_0 : w3.cell? ⟨u0.heap.size, 0, none⟩ = some (.int .i64 bf) := cell_of_row _ _ _ _ _ (0, 0) HB3.out.r1
  have c1_1 : w3.cell? ⟨u0.heap.size, 1, none⟩ = some (.int .i64 bd) := cell_of_row _ _ _ _ _ (0, 0) HB3.out.r1
  have c1_2 : w3.cell? ⟨u0.heap.size, 2, none⟩ = some (.int .i64 br) := cell_of_row _ _ _ _ _ (0, 0) HB3.out.r1
  have c1_3 : w3.cell? ⟨u0.heap.size, 3, none⟩ = some (.int .i64 bp) := cell_of_row _ _ _ _ _ (0, 0) HB3.out.r1
  have c1_4 : w3.cell? ⟨u0.heap.size, 4, none⟩ = some (.float .f64 be1) := cell_of_row _ _ _ _ _ (0, 0) HB3.out.r1
  have c1_5 : w3.cell? ⟨u0.heap.size, 5, none⟩ = some (.float .f64 be2) := cell_of_row _ _ _ _ _ (0, 0) HB3.out.r1
  have c1_6 : w3.cell? ⟨u0.heap.size, 6, none⟩ = some (.float .f64 be3) := cell_of_row _ _ _ _ _ (0, 0) HB3.out.r1
  have c1_7 : w3.cell? ⟨u0.heap.size, 7, none⟩ = some (.slice A ncs cap) := cell_of_row _ _ _ _ _ (0, 0) HB3.out.r1
  go_wp2_with fail
  refine (FS.out A cap _ _ _ _ _ (HCX.out _ HB3.out.below) HD.out.view).mono ?_
  rintro e w4 ⟨u, rfl, hrv, hb4⟩
  have HD := Lib.hid (HD.out.below hb4)
  obtain ⟨-, xA, xc, rfl, hx⟩ := RV.of_own hrv
  have HX := Lib.hid hx
  clear hx hrv
  have HB4 := Lib.hid (HB3.out.next hb4)
  clear c0_0 c0_1 c0_2 c0_3 c1_0 c1_1 c1_2 c1_3 c1_4 c1_5 c1_6 c1_7 hb4 HB3
  have c1_0 : w4.cell? ⟨u0.heap.size, 0, none⟩ = some (.int .i64 bf) := cell_of_row _ _ _ _ _ (0, 0) HB4.out.r1
  have c1_1 : w4.cell? ⟨u0.heap.size, 1, none⟩ = some (.int .i64 bd) := cell_of_row _ _ _ _ _ (0, 0) HB4.out.r1
  have c1_2 : w4.cell? ⟨u0.heap.size, 2, none⟩ = some (.int .i64 br) := cell_of_row _ _ _ _ _ (0, 0) HB4.out.r1
  have c1_3 : w4.cell? ⟨u0.heap.size, 3, none⟩ = some (.int .i64 bp) := cell_of_row _ _ _ _ _ (0, 0) HB4.out.r1
  have c1_4 : w4.cell? ⟨u0.heap.size, 4, none⟩ = some (.float .f64 be1) := cell_of_row _ _ _ _ _ (0, 0) HB4.out.r1
  have c1_5 : w4.cell? ⟨u0.heap.size, 5, none⟩ = some (.float .f64 be2) := cell_of_row _ _ _ _ _ (0, 0) HB4.out.r1
  have c1_6 : w4.cell? ⟨u0.heap.size, 6, none⟩ = some (.float .f64 be3) := cell_of_row _ _ _ _ _ (0, 0) HB4.out.r1
  have c1_7 : w4.cell? ⟨u0.heap.size, 7, none⟩ = some (.slice A ncs cap) := cell_of_row _ _ _ _ _ (0, 0) HB4.out.r1
  go_wp2_with fail
  refine (FI.out A cap _ (HCX.out _ HB4.out.below)).mono ?_
  rintro e w5 ⟨pv, fv, lv, ev, rfl, hI0, hb5⟩
  have HD := Lib.hid (HD.out.below hb5)
  have HX := Lib.hid (HX.out.below hb5)
  have HB5 := Lib.hid (HB4.out.next hb5)
  clear c1_0 c1_1 c1_2 c1_3 c1_4 c1_5 c1_6 c1_7 hb5 HB4
  have hI := hI0.mono (Nat.zero_le _)
  clear hI0
  obtain ⟨E1, e1, rfl⟩ := own_slice hI.p
  obtain ⟨E2, e2, rfl⟩ := own_slice hI.f
  obtain ⟨E3, e3, rfl⟩ := own_slice hI.l
  obtain ⟨E4, e4, rfl⟩ := own_slice hI.e
  have HIq := Lib.hid hI
  clear hI
  have ld0 : gm < w5.heap.size := (Array.getElem?_eq_some_iff.1 HB5.out.r0).1
  have ld1 : u0.heap.size < w5.heap.size := (Array.getElem?_eq_some_iff.1 HB5.out.r1).1
  go_wp2_with (with_reducible show wpList _ _ _ (Oper.mk _ (.store 32 _ _) _ _ _ _ :: _) _ _; refine Hid.out ?_)
  refine Lib.hid ?_
  refine wpList_put rfl 32 _ _ rfl w5.heap.size #[.slice E1 i0.ph.length e1, .slice E2 i0.fl.length e2, .slice E3 i0.lv.length e3, .slice E4 i0.en.length e4] _ 32 rfl rfl (heap_alloc_new w5 _) (by kernel_rfl) rfl (by kernel_rfl) ?_
  intro w6 hr6 hg6
  have hbd6 : Below w5.heap.size w5 w6 := ((Below.refl w5.heap.size w5).alloc (Nat.le_refl _) _).grown hg6.out (by simp) (fun k hk => by injection hk with hk; omega)
  have lw6 : u0.heap.size ≤ w5.heap.size := HB5.out.below.size
  have HE := Lib.hid (HIq.out.below hbd6)
  have HD := Lib.hid (HD.out.below hbd6)
  have HX := Lib.hid (HX.out.below hbd6)
  have HB6 := Lib.hid (HB5.out.make hr6.out hbd6)
  clear hr6 hg6 hbd6 HB5 HIq
  generalize w5.heap.size = go at *
  go_wp2_with fail
  clear FM FS FI FB
  go_loopw [9] (fun vi wr => ∃ (k : Nat) (pv fv lv ev : Value), k ≤ X.length ∧ vi = .int .i64 k ∧ IOwn wr 0 pv fv lv ev (M k) ∧ IOwn wr 0 (.slice D1 m.ph.length d1) (.slice D2 m.fl.length d2) (.slice D3 m.lv.length d3) (.slice D4 m.en.length d4) m ∧ RAt wr xA X ∧ Bx u0 [(go, .cells #[pv, fv, lv, ev] 32 (0, 0)), (gm, .cells #[.slice D1 m.ph.length d1, .slice D2 m.fl.length d2, .slice D3 m.lv.length d3, .slice D4 m.en.length d4] 32 (0, 0)), (u0.heap.size, .cells #[.int .i64 bf, .int .i64 bd, .int .i64 br, .int .i64 bp, .float .f64 be1, .float .f64 be2, .float .f64 be3, .slice A ncs cap] 26 (0, 0))] wr) (fun vi _ => X.length - (intOf vi).toNat)
  case atStart => exact ⟨0, _, _, _, _, Nat.zero_le _, rfl, by rw [HZ.out]; exact HE.out, HD.out, HX.out, HB6.out⟩
  case round =>
    obtain ⟨k, pv, fv, lv, ev, hk, rfl, hI, hD, hx, hbr⟩ := hrel
    obtain ⟨G1, f1, rfl⟩ := own_slice hI.p
    obtain ⟨G2, f2, rfl⟩ := own_slice hI.f
    obtain ⟨G3, f3, rfl⟩ := own_slice hI.l
    obtain ⟨G4, f4, rfl⟩ := own_slice hI.e
    have HI := Lib.hid hI
    have HDR := Lib.hid hD
    have HXR := Lib.hid hx
    have HBR := Lib.hid hbr
    clear hI hD hx hbr HE HD HX HB6
    have hgo : go < wr.heap.size := (Array.getElem?_eq_some_iff.1 HBR.out.r0).1
    by_cases hlt : k < X.length
    · have hlI : (k : Int) < (X.length : Int) := by omega
      have hlB : decide ((k : Int) < (X.length : Int)) = true := decide_eq_true hlI
      obtain ⟨bb, off, rfl, hbb, c0, c1, c2, c3, c4⟩ := HXR.out.at_ hlt
      have FAX := Lib.hid (fun pv fv lv ev wx hc h => FA.out k hlt A cap pv fv lv ev wx hc h)
      have HN1 := Lib.hid (HNX.out k hlt)
      generalize X[k] = x at *
      rw [← HN1.out] at FAX
      obtain ⟨x1, x2, x3, x4, x5⟩ := x
      simp only [Rc.agg] at FAX
      simp only at c0 c1 c2 c3 c4
      have HRC := Lib.hid (fun (wx : World) (h : Below wr.heap.size wr wx) => (⟨(h.cell (p := ⟨bb, _, none⟩) hbb).trans c0, (h.cell (p := ⟨bb, _, none⟩) hbb).trans c1, (h.cell (p := ⟨bb, _, none⟩) hbb).trans c2, (h.cell (p := ⟨bb, _, none⟩) hbb).trans c3, (h.cell (p := ⟨bb, _, none⟩) hbb).trans c4⟩ : wx.cell? ⟨bb, off + k * 5, none⟩ = some (.int .i64 x1) ∧ wx.cell? ⟨bb, off + k * 5 + 1, none⟩ = some (.int .i64 x2) ∧ wx.cell? ⟨bb, off + k * 5 + 2, none⟩ = some (.int .i64 x3) ∧ wx.cell? ⟨bb, off + k * 5 + 3, none⟩ = some (.int .i64 x4) ∧ wx.cell? ⟨bb, off + k * 5 + 4, none⟩ = some (.int .i64 x5)))
      clear c0 c1 c2 c3 c4
      go_wp2_with fail
      refine ghostM [6, 7, 8, 11] (fun p γ L wx => Sb wr (M (k + 1)) 0 p (γ 6) (γ 7) (γ 8) (γ 10) (L 10) wx) (by kernel_rfl) (by kernel_rfl) (fun γ => Sb.start) ?_
      apply GM.walk_plain (by kernel_rfl) (by kernel_rfl) (fun γ => by rfl)
      · intro γ L p wx h1 h2 hup hlo hS K hK
        have hbl := hS.bl
        have HXx := HBR.out.next hbl
        obtain ⟨b0, b1, b2, b3, b4, b5, b6, b7⟩ := boxRow HXx.r2
        obtain ⟨q0, q1, q2, q3⟩ := imRowCells HXx.r0
        obtain ⟨c0, c1, c2, c3, c4⟩ := HRC.out wx hbl
        clear hbl HXx
        have HK2 := Lib.hid hK
        have HS := Lib.hid hS
        clear hK h1 h2 hup hlo hS
        go_simp
        exact HK2.out _ HS.out
      try simp only [Act.put, List.setIfInBounds_toArray, List.set_cons_succ, List.set_cons_zero]
      apply GM.walk_plain (by kernel_rfl) (by kernel_rfl) (fun γ => by rfl)
      · intro γ L p wx h1 h2 hup hlo hS K hK
        have hbl := hS.bl
        have HXx := HBR.out.next hbl
        obtain ⟨b0, b1, b2, b3, b4, b5, b6, b7⟩ := boxRow HXx.r2
        obtain ⟨q0, q1, q2, q3⟩ := imRowCells HXx.r0
        obtain ⟨c0, c1, c2, c3, c4⟩ := HRC.out wx hbl
        clear hbl HXx
        have HK2 := Lib.hid hK
        have HS := Lib.hid hS
        clear hK h1 h2 hup hlo hS
        go_simp
        exact HK2.out _ HS.out
      try simp only [Act.put, List.setIfInBounds_toArray, List.set_cons_succ, List.set_cons_zero]
      apply GM.walk_plain (by kernel_rfl) (by kernel_rfl) (fun γ => by rfl)
      · intro γ L p wx h1 h2 hup hlo hS K hK
        have hbl := hS.bl
        have HXx := HBR.out.next hbl
        obtain ⟨b0, b1, b2, b3, b4, b5, b6, b7⟩ := boxRow HXx.r2
        obtain ⟨q0, q1, q2, q3⟩ := imRowCells HXx.r0
        obtain ⟨c0, c1, c2, c3, c4⟩ := HRC.out wx hbl
        clear hbl HXx
        have HK2 := Lib.hid hK
        have HS := Lib.hid hS
        clear hK h1 h2 hup hlo hS
        go_simp
        exact HK2.out _ HS.out
      try simp only [Act.put, List.setIfInBounds_toArray, List.set_cons_succ, List.set_cons_zero]
      apply GM.walk_plain (by kernel_rfl) (by kernel_rfl) (fun γ => by rfl)
      · intro γ L p wx h1 h2 hup hlo hS K hK
        have hbl := hS.bl
        have HXx := HBR.out.next hbl
        obtain ⟨b0, b1, b2, b3, b4, b5, b6, b7⟩ := boxRow HXx.r2
        obtain ⟨q0, q1, q2, q3⟩ := imRowCells HXx.r0
        obtain ⟨c0, c1, c2, c3, c4⟩ := HRC.out wx hbl
        clear hbl HXx
        have HK2 := Lib.hid hK
        have HS := Lib.hid hS
        clear hK h1 h2 hup hlo hS
        go_simp
        exact HK2.out _ HS.out
      try simp only [Act.put, List.setIfInBounds_toArray, List.set_cons_succ, List.set_cons_zero]
      apply GM.walk_plain (by kernel_rfl) (by kernel_rfl) (fun γ => by rfl)
      · intro γ L p wx h1 h2 hup hlo hS K hK
        have hbl := hS.bl
        have HXx := HBR.out.next hbl
        obtain ⟨b0, b1, b2, b3, b4, b5, b6, b7⟩ := boxRow HXx.r2
        obtain ⟨q0, q1, q2, q3⟩ := imRowCells HXx.r0
        obtain ⟨c0, c1, c2, c3, c4⟩ := HRC.out wx hbl
        clear hbl HXx
        have HK2 := Lib.hid hK
        have HS := Lib.hid hS
        clear hK h1 h2 hup hlo hS
        go_simp
        exact HK2.out _ HS.out
      try simp only [Act.put, List.setIfInBounds_toArray, List.set_cons_succ, List.set_cons_zero]
      apply GM.walk_plain (by kernel_rfl) (by kernel_rfl) (fun γ => by rfl)
      · intro γ L p wx h1 h2 hup hlo hS K hK
        have hbl := hS.bl
        have HXx := HBR.out.next hbl
        obtain ⟨b0, b1, b2, b3, b4, b5, b6, b7⟩ := boxRow HXx.r2
        obtain ⟨q0, q1, q2, q3⟩ := imRowCells HXx.r0
        obtain ⟨c0, c1, c2, c3, c4⟩ := HRC.out wx hbl
        clear hbl HXx
        have HK2 := Lib.hid hK
        have HS := Lib.hid hS
        clear hK h1 h2 hup hlo hS
        go_simp
        exact HK2.out _ HS.out
      try simp only [Act.put, List.setIfInBounds_toArray, List.set_cons_succ, List.set_cons_zero]
      apply GM.walk_turn 0 rfl (by kernel_rfl) (by decide) (.inl rfl) (fun γ => by rfl)
      · intro γ L wx h1 h2 hS K hK
        have hbl := hS.bl
        have HK2 := Lib.hid hK
        have HS := Lib.hid hS
        clear hK h1 h2 hS
        go_simp
        go_at_call 12
        refine (FAX.out _ _ _ _ wx (HCX.out _ (HBR.out.next hbl).below) (HI.out.below hbl).view).mono ?_
        rintro e w' ⟨pv', fv', lv', ev', rfl, hI', hb'⟩
        exact HK2.out _ _ (HS.out.step1 hI' hb')
      try simp only [Act.put, List.setIfInBounds_toArray, List.set_cons_succ, List.set_cons_zero]
      apply GM.walk_turn 1 rfl (by kernel_rfl) (by decide) (.inr ⟨6, rfl, by kernel_rfl⟩) (fun γ => by rfl)
      · intro γ L wx h1 h2 hS K hK
        have HK2 := Lib.hid hK
        have HS := Lib.hid hS
        clear hK h1 h2 hS
        go_simp
        exact HK2.out (γ 6) _ HS.out.step2
      try simp only [Act.put, List.setIfInBounds_toArray, List.set_cons_succ, List.set_cons_zero]
      apply GM.walk_turn 2 rfl (by kernel_rfl) (by decide) (.inr ⟨7, rfl, by kernel_rfl⟩) (fun γ => by rfl)
      · intro γ L wx h1 h2 hS K hK
        obtain ⟨pv', fv', lv', ev', hI', hx', hy'⟩ := hS.tup (by decide)
        have HK2 := Lib.hid hK
        have HS := Lib.hid (hS.step3 hI' hx')
        rw [hy'] at HK2 ⊢
        clear hK h1 h2 hS hy' hx' hI'
        go_simp
        exact HK2.out (.agg #[pv', fv', lv', ev']) _ HS.out
      try simp only [Act.put, List.setIfInBounds_toArray, List.set_cons_succ, List.set_cons_zero]
      apply GM.walk_plain (by kernel_rfl) (by kernel_rfl) (fun γ => by rfl)
      · intro γ L p wx h1 h2 hup hlo hS K hK
        obtain ⟨pv', fv', lv', ev', -, -, hy'⟩ := hS.tup (by have := hlo 1 7 rfl (h2 7 (by kernel_rfl)); omega)
        have HK2 := Lib.hid hK
        have HS := Lib.hid hS
        clear hK h1 h2 hup hlo hS
        rw [hy'] at HK2 ⊢
        clear hy'
        go_simp
        exact HK2.out _ HS.out
      try simp only [Act.put, List.setIfInBounds_toArray, List.set_cons_succ, List.set_cons_zero]
      apply GM.walk_ghost (by kernel_rfl) (by kernel_rfl) (fun γ => by rfl)
      · intro γ L p wx h1 h2 hup hlo hS K hK
        have HK2 := Lib.hid hK
        have HS := Lib.hid hS
        have HH := Lib.hid h1
        clear hK h1 h2 hS hup hlo
        go_simp
        exact HK2.out _ _ (HS.out.alloc HH.out rfl)
      try simp only [Act.put, List.setIfInBounds_toArray, List.set_cons_succ, List.set_cons_zero]
      apply GM.walk_turn 3 rfl (by kernel_rfl) (by decide) (.inr ⟨8, rfl, by kernel_rfl⟩) (fun γ => by rfl)
      · intro γ L wx h1 h2 hS K hK
        obtain ⟨pv', fv', lv', ev', hI', hx', hy', hz'⟩ := hS.img
        obtain ⟨g, cs', hu, hge, hr0, hcs⟩ := hS.al (h2 10 (by kernel_rfl))
        exact wp_put 32 (.tmp 10) (.tmp 36) rfl g #[pv', fv', lv', ev'] _ _ hu hz' hr0 (by kernel_rfl) hcs (one4 hI') (fun w' hr hgr' => hK undef w' (hS.step4 (h2 10 (by kernel_rfl)) hu hge hr0 hI' hx' hy' hz' hr.out hgr'.out))
      try simp only [Act.put]
      apply GM.walk_plain (by kernel_rfl) (by kernel_rfl) (fun γ => by rfl)
      · intro γ L p wx h1 h2 hup hlo hS K hK
        have HK2 := Lib.hid hK
        have HS := Lib.hid hS
        clear hK h1 h2 hup hlo hS
        go_simp
        exact HK2.out _ HS.out
      try simp only [Act.put, List.setIfInBounds_toArray, List.set_cons_succ, List.set_cons_zero]
      refine GhostV.walk_nil (fun γ L w4 hall hx => ?_)
      have hSb : Sb wr (M (k + 1)) 0 4 (γ 6) (γ 7) (γ 8) (γ 10) (L 10) w4 := hx.done (fun t ht => hall t (by simp only [List.mem_cons, List.not_mem_nil, or_false] at ht; rcases ht with rfl | rfl | rfl | rfl <;> decide))
      clear hx hall
      obtain ⟨pv', fv', lv', ev', hI', -, -, -, hrow0⟩ := hSb.c (by decide)
      obtain ⟨g, hu, hge, hrow⟩ := hrow0 (by decide)
      have hbl := hSb.bl
      clear hSb hrow0
      generalize γ 10 = v10 at *
      subst hu
      generalize γ 6 = v6 at *
      generalize γ 7 = v7 at *
      generalize γ 8 = v8 at *
      obtain ⟨K1, g1, rfl⟩ := own_slice hI'.p
      obtain ⟨K2, g2, rfl⟩ := own_slice hI'.f
      obtain ⟨K3, g3, rfl⟩ := own_slice hI'.l
      obtain ⟨K4, g4, rfl⟩ := own_slice hI'.e
      have HI4 := Lib.hid (hI'.mono (Nat.zero_le _))
      have HD4 := Lib.hid (HDR.out.below hbl)
      have HX4 := Lib.hid (HXR.out.below hbl)
      have HB4 := Lib.hid (HBR.out.make hrow hbl)
      have hg1 : go < g := by omega
      have hg2 : gm < g := by have : gm < wr.heap.size := (Array.getElem?_eq_some_iff.1 HBR.out.r1).1; omega
      have hg3 : u0.heap.size < g := by have : u0.heap.size < wr.heap.size := (Array.getElem?_eq_some_iff.1 HBR.out.r2).1; omega
      clear hI' hrow hbl HBR HI HDR HXR
      have c0_0 : w4.cell? ⟨g, 0, none⟩ = some (.slice K1 (M (k + 1)).ph.length g1) := cell_of_row _ _ _ _ _ (0, 0) HB4.out.r0
      have c0_1 : w4.cell? ⟨g, 1, none⟩ = some (.slice K2 (M (k + 1)).fl.length g2) := cell_of_row _ _ _ _ _ (0, 0) HB4.out.r0
      have c0_2 : w4.cell? ⟨g, 2, none⟩ = some (.slice K3 (M (k + 1)).lv.length g3) := cell_of_row _ _ _ _ _ (0, 0) HB4.out.r0
      have c0_3 : w4.cell? ⟨g, 3, none⟩ = some (.slice K4 (M (k + 1)).en.length g4) := cell_of_row _ _ _ _ _ (0, 0) HB4.out.r0
      go_wp2_with (with_reducible show wpList _ _ _ (Oper.mk _ (.store 32 _ _) _ _ _ _ :: _) _ _; refine Hid.out ?_)
      refine Lib.hid ?_
      refine wpList_put rfl 32 _ _ rfl (go) #[.slice K1 (M (k + 1)).ph.length g1, .slice K2 (M (k + 1)).fl.length g2, .slice K3 (M (k + 1)).lv.length g3, .slice K4 (M (k + 1)).en.length g4] _ 32 rfl rfl HB4.out.r1 (by kernel_rfl) rfl (by kernel_rfl) ?_
      intro w5 hr5 hg5
      have HI5 := Lib.hid (HI4.out.imKept HB4.out.r1 hg5.out)
      have HD5 := Lib.hid (HD4.out.imKept HB4.out.r1 hg5.out)
      have HX5 := Lib.hid (HX4.out.imPut HB4.out.r1 hg5.out)
      have HB5 : Hid (Bx u0 [(g, .cells #[.slice K1 (M (k + 1)).ph.length g1, .slice K2 (M (k + 1)).fl.length g2, .slice K3 (M (k + 1)).lv.length g3, .slice K4 (M (k + 1)).en.length g4] 32 (0, 0)), (go, .cells #[.slice K1 (M (k + 1)).ph.length g1, .slice K2 (M (k + 1)).fl.length g2, .slice K3 (M (k + 1)).lv.length g3, .slice K4 (M (k + 1)).en.length g4] 32 (0, 0)), (gm, .cells #[.slice D1 m.ph.length d1, .slice D2 m.fl.length d2, .slice D3 m.lv.length d3, .slice D4 m.en.length d4] 32 (0, 0)), (u0.heap.size, .cells #[.int .i64 bf, .int .i64 bd, .int .i64 br, .int .i64 bp, .float .f64 be1, .float .f64 be2, .float .f64 be3, .slice A ncs cap] 26 (0, 0))] w5) := Lib.hid (HB4.out.put (by omega) hg5.out hr5.out (by simp only [List.mem_cons, List.not_mem_nil, or_false]; rintro p (rfl | rfl | rfl | rfl) <;> simp <;> omega))
      clear c0_0 c0_1 c0_2 c0_3 hr5 hg5 HB4
      go_wp2_with fail
      go_roundw
      case rel => exact ⟨k + 1, _, _, _, _, by omega, by go_num, HI5.out, HD5.out, HX5.out, HB5.out.less (by simp only [List.mem_cons, List.not_mem_nil, or_false]; rintro p (rfl | rfl | rfl) <;> simp)⟩
      case measure => simp [intOf]; omega
    · obtain rfl : k = X.length := by omega
      have hlI : ¬ (X.length : Int) < (X.length : Int) := by omega
      obtain ⟨hl1, hl2, hl3⟩ := HLB.out
      have HIE := Lib.hid (show ImV wr (.slice G1 (M X.length).ph.length f1) (.slice G2 (M X.length).fl.length f2) (.slice G3 (M X.length).lv.length f3) (.slice G4 (M X.length).en.length f4) m from by rw [← HXE.out]; exact HI.out.view)
      have c0_0 : wr.cell? ⟨go, 0, none⟩ = some (.slice G1 (M X.length).ph.length f1) := cell_of_row _ _ _ _ _ (0, 0) HBR.out.r0
      have c0_1 : wr.cell? ⟨go, 1, none⟩ = some (.slice G2 (M X.length).fl.length f2) := cell_of_row _ _ _ _ _ (0, 0) HBR.out.r0
      have c0_2 : wr.cell? ⟨go, 2, none⟩ = some (.slice G3 (M X.length).lv.length f3) := cell_of_row _ _ _ _ _ (0, 0) HBR.out.r0
      have c0_3 : wr.cell? ⟨go, 3, none⟩ = some (.slice G4 (M X.length).en.length f4) := cell_of_row _ _ _ _ _ (0, 0) HBR.out.r0
      have c1_0 : wr.cell? ⟨gm, 0, none⟩ = some (.slice D1 m.ph.length d1) := cell_of_row _ _ _ _ _ (0, 0) HBR.out.r1
      have c1_1 : wr.cell? ⟨gm, 1, none⟩ = some (.slice D2 m.fl.length d2) := cell_of_row _ _ _ _ _ (0, 0) HBR.out.r1
      have c1_2 : wr.cell? ⟨gm, 2, none⟩ = some (.slice D3 m.lv.length d3) := cell_of_row _ _ _ _ _ (0, 0) HBR.out.r1
      have c1_3 : wr.cell? ⟨gm, 3, none⟩ = some (.slice D4 m.en.length d4) := cell_of_row _ _ _ _ _ (0, 0) HBR.out.r1
      have c2_0 : wr.cell? ⟨u0.heap.size, 0, none⟩ = some (.int .i64 bf) := cell_of_row _ _ _ _ _ (0, 0) HBR.out.r2
      have c2_1 : wr.cell? ⟨u0.heap.size, 1, none⟩ = some (.int .i64 bd) := cell_of_row _ _ _ _ _ (0, 0) HBR.out.r2
      have c2_2 : wr.cell? ⟨u0.heap.size, 2, none⟩ = some (.int .i64 br) := cell_of_row _ _ _ _ _ (0, 0) HBR.out.r2
      have c2_3 : wr.cell? ⟨u0.heap.size, 3, none⟩ = some (.int .i64 bp) := cell_of_row _ _ _ _ _ (0, 0) HBR.out.r2
      have c2_4 : wr.cell? ⟨u0.heap.size, 4, none⟩ = some (.float .f64 be1) := cell_of_row _ _ _ _ _ (0, 0) HBR.out.r2
      have c2_5 : wr.cell? ⟨u0.heap.size, 5, none⟩ = some (.float .f64 be2) := cell_of_row _ _ _ _ _ (0, 0) HBR.out.r2
      have c2_6 : wr.cell? ⟨u0.heap.size, 6, none⟩ = some (.float .f64 be3) := cell_of_row _ _ _ _ _ (0, 0) HBR.out.r2
      have c2_7 : wr.cell? ⟨u0.heap.size, 7, none⟩ = some (.slice A ncs cap) := cell_of_row _ _ _ _ _ (0, 0) HBR.out.r2
      go_wp2_with fail
      refine (FE.out _ _ _ _ _ _ _ _ _ HIE.out HDR.out.view).mono ?_
      rintro e w21 ⟨rfl, hb21⟩
      have HB21 := Lib.hid (HBR.out.next hb21)
      clear c0_0 c0_1 c0_2 c0_3 c1_0 c1_1 c1_2 c1_3 c2_0 c2_1 c2_2 c2_3 c2_4 c2_5 c2_6 c2_7 hb21 HBR
      go_wp2_with fail
      refine (FN.out _).mono ?_
      rintro e w22 ⟨rfl, hb22⟩
      have HB22 := Lib.hid (HB21.out.next hb22)
      clear hb22 HB21
      go_wp2_with fail
      go_ret
      exact ⟨rfl, HBW.out.trans (HB22.out.below.mono HBW.out.size)⟩

theorem lawLogSnapshots_walk (x : Int) (v : Value) (ns : List Nat) (w : World) (hx : (Lit.int .u8 x).wf = true) (hv : VV w v (u8s ns)) (hns : ∀ z ∈ ns, z < 256) (hnl : ns.length ≤ maxLen) :
    Calls Try.prog 3 #[.int .u8 x, v] w fun e w' => e = .returned (.bool true) ∧ Below w.heap.size w w' := by
  obtain ⟨n, rfl, hn⟩ := u8_nat hx
  exact logSnapshots_any n ns v w hn hns hnl hv
set_option maxRecDepth 100000 in
theorem lawLogSnapshots_lifted (os : Os) (started : os.Started) (H : Type) (enc : TypeId × Value → H) :
    ReturnsInHanded {} Try.checked os 3 .any (Rows.logSnapshotsSpec.pre6 enc Try.prog Try.f3 Rows.logSnapshotsRow.domain false) (Rows.logSnapshotsSpec.post enc Try.prog Try.f3 false true false false) := by
  refine returnsInHanded_of_change (C := Try.checked) own started (by kernel_rfl) Try.func3
    (ChangeSpec.witness6 (enc := enc) (C := Try.checked) false ⟨#[], #[.int .u8 0, .slice none 0 0], []⟩ 8 (by kernel_rfl) (by kernel_rfl) (by kernel_rfl) (by kernel_rfl)) ?_
  intro W base args ds gs before hval0 hW hcnd _
  have hval : ∀ (j : Nat) t v, Try.f3.params[j]? = some t → args[j]? = some v → Value.okWide Try.prog W .any base t v := hval0
  have hW' := hW
  obtain ⟨p, q, hA0, hV, rfl, hfz, hnd⟩ := hW
  have hA : DataW.TrodAll enc Try.prog W 0 (fun _ => true) true Try.f3.params.toList args.toList ds p := hA0
  rw [Try.params3] at hA hval
  obtain ⟨v0, vs0, d0, ds0, p0, q0, hargs, rfl, rfl, h0, r0⟩ := trodAll_cons hA
  obtain ⟨v1, vs1, d1, ds1, p1, q1, rfl, rfl, rfl, h1, r1⟩ := trodAll_cons r0
  obtain ⟨rfl, rfl, rfl⟩ := trodAll_nil r1
  obtain rfl : args = #[v0, v1] := by cases args; simp_all
  obtain ⟨rfl, rfl⟩ := trodVars_none hV
  obtain ⟨x0, rfl, rfl, rfl, g0⟩ := open_int Try.underlying5 (hval 0 5 v0 rfl rfl) h0
  have k1 := h1
  have lt1 : ∀ x ∈ p1, x.block < W.heap.size := by obtain ⟨m, hm⟩ := k1; exact DataW.trod_lt m _ _ _ hm
  obtain ⟨a1, l1, c1, rfl⟩ := okWide_slice Try.underlying22 (hval 1 22 v1 rfl rfl)
  obtain ⟨fuel1, hf1⟩ := h1
  obtain ⟨x1, g1, n1, m1⟩ := open_u8s hf1
  clear hA0 hval0
  refine (lawLogSnapshots_walk x0 _ x1 W g0 g1 n1 m1).mono fun e W' ⟨he, bel⟩ => ?_
  subst he
  exact ⟨_, rfl, _, _, _, [], _, [], hW', trodAll_mk1 (shut_bool Try.underlying4 _), (trodAll_cons_mk (shut_int Try.underlying5 g0) (trodAll_cons_mk (Below.trod laidOut (by kernel_rfl) (of_decide_eq_true (by kernel_rfl)) k1 bel lt1) trodAll_mk0)), rfl, bel.frame _, fun h => by cases h⟩

theorem lawLogSnapshots_over : Rows.logSnapshotsRow.holds Try.pinned (OpenSpec.ofChange Rows.logSnapshotsSpec) :=
  OpenClaim.holds_of_wide 3 Try.f3 rfl rfl rfl rfl rfl rfl rfl ⟨rfl, rfl, rfl, rfl, rfl⟩ rfl rfl rfl rfl rfl (by kernel_rfl) Try.func3 (by kernel_rfl)
    (of_decide_eq_true (by kernel_rfl)) (by unfold Func.isWrapper; first | (rw [if_pos (by decide +kernel)]; kernel_rfl) | (rw [if_neg (by decide +kernel)]; exact ⟨rfl, rfl⟩))
    (fun os started H enc _ => lawLogSnapshots_lifted os started H enc)

theorem logSnapshots_holds : Rows.LogSnapshotsSaid := lawLogSnapshots_over
#print axioms logSnapshots_holds
end Go.Proofs.Ytmonbldmgmmnbaa
