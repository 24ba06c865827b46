/- The law LogUnits: the same for every single unit of one append, also one that compacts: the record counts exactly if all units were left. No condition. -/
import Derived.Test.YtifbkoaggjikpaaLgUnitM
import Derived.Deep.CutRange
import Derived.Deep.CutBlock
namespace Go.Proofs.Ytifbkoaggjikpaa
open Go.RowKit GhostV Bag Lg Img Go.ChangeShapes Go.WideShapes Go.ChangeAt Go.Deep

open List (setIfInBounds_toArray set_cons_succ set_cons_zero)

set_option maxRecDepth 100000 in
set_option maxHeartbeats 16000000 in
theorem logUnits_any(n : Nat) (ns : List Nat) (vl : Value) (w : World) (hn : n < 256) (hns : ∀ z ∈ ns, z < 256) (hnl : ns.length ≤ maxLen) (hv : VV w vl (u8s ns)) :
  Calls Try.prog 6 #[.int .u8 n, vl] w fun e w' => e = .returned (.bool true) ∧ Below w.heap.size w w' := by
 obtain ⟨F, hF⟩ : ∃ F, F = 2 + n % 7 := ⟨_, rfl⟩
 obtain ⟨C, hC⟩ : ∃ C, C = 1 + n / 7 % 3 := ⟨_, rfl⟩
 have hF1 : 2 ≤ F := by omega
 have hF2 : F ≤ 32 := by omega
 have hC1 : 1 ≤ C := by omega
 have hC2 : C ≤ 3 := by omega
 have FB := Lib.hid (fun wx => building10_any n 40 wx hn (by decide))
 rw [← hF, ← hC] at FB
 clear hF hC hn
 have hok : ∀ r ∈ Rc.recL F C ns (min (ns.length / 2) 30), Rc.okB (bldR (F : Int) C 40) r = true := fun r hr => okB_bldR hF1 hF2 hC1 (by omega) (by omega) (Rc.recL_ok hF1 hF2 hC1 (by omega) hns _ r hr)
 have hvb : validE (bldR (F : Int) C 40) = 0 := bldR_valid F C 40 (by omega) (by omega) hC1 (by omega) (by omega)
 have hbl : (bldR (F : Int) C 40).cars.length = C := by simp [bldR, sampleD, sampleCars_length]
 have hrm : (bldR (F : Int) C 40).room = 18 * (C : Int) + 24 + 40 := rfl
 have FR := Lib.hid (fun A cap wx (hV : VV wx vl (u8s ns)) => records_any (bldR (F : Int) C 40) A cap F C rfl hbl hF1 hF2 hC1 (by omega) ns hns hnl vl 30 (by decide) wx hV)
 have hj0 := jrn_new hvb (by rw [hbl, hrm]; omega) (by rw [hrm]; omega)
 have hroom : (bldR (F : Int) C 40).room ≤ 1000 := by rw [hrm]; omega
 have hXl : (Rc.recL F C ns (min (ns.length / 2) 30)).length ≤ 30 := by rw [Rc.recL_len]; omega
 generalize Rc.recL F C ns (min (ns.length / 2) 30) = X at *
 generalize bldR (F : Int) C 40 = b at *
 clear hns hnl hF1 hF2 hrm
 have FI := Lib.hid (fun A cap wx (hc : CarsAt wx wx.heap.size A b.cars) => initGood_any b A cap wx hc hvb)
 have HJ0 := Lib.hid hj0
 have FA := Lib.hid (fun A cap s pv fv lv ev m r (bud : Int) wx (hc : CarsAt wx wx.heap.size A b.cars) (hj : Jrn b s m) (h0 : 0 ≤ bud ∧ bud ≤ 100000) (h : ImV wx pv fv lv ev m) => by
  obtain ⟨a1, a2, a3, a4, -⟩ := jrn_small hj hroom
  exact append_any b A cap s pv fv lv ev m r bud wx (by omega) hc h ⟨by omega, by omega, by omega, by omega⟩ (by omega) (by constructor <;> omega))
 have HST := Lib.hid (fun s m r (hj : Jrn b s m) (hr : Rc.okB b r = true) => append_step hj hr hroom (bud := 100000) (by decide))
 have HJC := Lib.hid (fun s m (hj : Jrn b s m) => hj.cut)
 have HUC := Lib.hid (fun s m (bud : Int) (hj : Jrn b s m) (h0 : 0 ≤ bud) => unit_cases hj h0)
 have HUL := Lib.hid (fun s m (hj : Jrn b s m) => unit_len hj hroom)
 have HUD := Lib.hid (fun s m => show needU b s m = ((if (s.cur.size : Int) + 6 ≤ b.room then 6 else 2 + 6 * (snapM (applyM m ⟨4, 0, 0, 0, 1⟩)).length : Nat) : Int) from rfl)
 have HUS := Lib.hid (fun s m (hj : Jrn b s m) => unit_set hj.good)
 have FCu := Lib.hid (fun s wx => refCurrent_any s wx)
 have FP := Lib.hid (fun A cap pv fv lv ev s m wx (hc : CarsAt wx wx.heap.size A b.cars) (hj : Jrn b s m) (h : ImV wx pv fv lv ev m) => refApplyGood_any b A cap pv fv lv ev m ⟨4, 0, 0, 0, 1⟩ wx hc h (by have := (jrn_small hj hroom).2.2.2.1; omega) hj.good (unit_ok hvb))
 have FSn := Lib.hid (fun A cap pv fv lv ev s m wx (hc : CarsAt wx wx.heap.size A b.cars) (hj : Jrn b s m) (h : ImV wx pv fv lv ev (applyM m ⟨4, 0, 0, 0, 1⟩)) => by
  have hg := applyM_good hj.good (unit_ok hvb)
  have hl := applyM_len (unit_full (b := b) (m := m)) hj.good hj.room
  exact refSnapGood_any b A cap pv fv lv ev (applyM m ⟨4, 0, 0, 0, 1⟩) wx (by omega) hc h (by omega) hg)
 have FY := Lib.hid (fun A cap s m wx (hc : CarsAt wx wx.heap.size A b.cars) (hj : Cut b s m) => by
  have := replay_any b A cap s wx hvb hc (cut_small hj hroom).2.2.2.2.2.2
  exact this.mono fun e w' ⟨m2, pv, fv, lv, ev, h1, h2, h3, h4⟩ => (by
   obtain rfl := rpl_one h2 hj.rpl
   exact ⟨pv, fv, lv, ev, h1, h3, h4⟩ : ∃ pv fv lv ev, e = Ending.returned (.agg #[pv, fv, lv, ev]) ∧ IOwn w' wx.heap.size pv fv lv ev m ∧ Below wx.heap.size wx w'))
 have FE := Lib.hid (fun pv fv lv ev pv' fv' lv' ev' s m wx (hj : Cut b s m) (ha : ImV wx pv fv lv ev m) (hb : ImV wx pv' fv' lv' ev' m) => by
  obtain ⟨a1, a2, a3, a4, -⟩ := cut_small hj hroom
  have := refSame10_any m m pv fv lv ev pv' fv' lv' ev' wx ha hb (by omega) (by omega) (by omega) (by omega) (by omega) (by omega) (by omega) (by omega)
  rw [show imEq m m = true from (imEq_iff _ _).2 rfl] at this
  exact this)
 have FN := Lib.hid (fun wx => sane10_any wx)
 have HOK := Lib.hid (fun k (hk : k < X.length) => hok X[k] (List.getElem_mem hk))
 clear hok hvb hj0 hroom hbl hC1 hC2
 generalize Img.init b.cars.length = i0 at *
 generalize hJB : Jrn b = JB at *
 generalize hOB : Rc.okB b = OB at *
 generalize hAB : appendF b = AB at *
 generalize hCB : Cut b = CB at *
 generalize hFB : fullB b = FUB at *
 generalize hNB : needU b = NU at *
 clear hJB hOB hAB hFB hCB hNB
 obtain ⟨bf, bd, br, bp, be1, be2, be3, cs⟩ := b
 simp only [BldD.agg] at *
 generalize hncs : cs.length = ncs at *
 have HV := Lib.hid hv
 clear hv hncs
 go_enter Try.func6, Try.ntmps6
 go_wp2_with fail
 refine (FB.out _).mono ?_
 rintro e u0 ⟨hb0, A, cap, rfl, hcars⟩
 have HC := Lib.hid hcars
 have HBW := Lib.hid hb0
 clear hcars hb0
 have HB0 : Hid (Bx u0 [] u0) := Lib.hid ⟨Below.refl _ _, fun p hp => by simp at hp⟩
 have HCX := Lib.hid (fun wx (hb : Below u0.heap.size u0 wx) => show CarsAt wx wx.heap.size A cs from (HC.out.below hb).more hb.size)
 have HVX := Lib.hid (fun wx (hb : Below u0.heap.size u0 wx) => (HV.out.below HBW.out).below hb)
 clear HV HC
 go_wp2_with (with_reducible show wpList _ _ _ (Oper.mk _ (.store 26 _ _) _ _ _ _ :: _) _ _; refine Hid.out ?_)
 refine Lib.hid ?_
 refine wpList_put rfl 26 _ _ rfl u0.heap.size #[.int .i64 bf, .int .i64 bd, .int .i64 br, .int .i64 bp, .float .f64 be1, .float .f64 be2, .float .f64 be3, .slice A ncs cap] _ 26 rfl rfl (heap_alloc_new u0 _) (by kernel_rfl) rfl (by kernel_rfl) ?_
 intro w1 hr1 hg1
 have HB1 : Hid (Bx u0 [(u0.heap.size, .cells #[.int .i64 bf, .int .i64 bd, .int .i64 br, .int .i64 bp, .float .f64 be1, .float .f64 be2, .float .f64 be3, .slice A ncs cap] 26 (0, 0))] w1) := Lib.hid ((HB0.out.make (heap_alloc_new u0 (.cells #[.int .i64 0, .int .i64 0, .int .i64 0, .int .i64 0, .float .f64 0, .float .f64 0, .float .f64 0, .slice none 0 0] 26)) ((Below.refl u0.heap.size u0).alloc (Nat.le_refl _) _)).put HB0.out.below.size hg1.out hr1.out (by simp only [List.mem_cons, List.not_mem_nil, or_false]; rintro p rfl <;> simp <;> omega))
 clear hr1 hg1 HB0
 have c0_0 : w1.cell? ⟨u0.heap.size, 0, none⟩ = some (.int .i64 bf) := cell_of_row _ _ _ _ _ (0, 0) HB1.out.r0
 have c0_1 : w1.cell? ⟨u0.heap.size, 1, none⟩ = some (.int .i64 bd) := cell_of_row _ _ _ _ _ (0, 0) HB1.out.r0
 have c0_2 : w1.cell? ⟨u0.heap.size, 2, none⟩ = some (.int .i64 br) := cell_of_row _ _ _ _ _ (0, 0) HB1.out.r0
 have c0_3 : w1.cell? ⟨u0.heap.size, 3, none⟩ = some (.int .i64 bp) := cell_of_row _ _ _ _ _ (0, 0) HB1.out.r0
 have c0_4 : w1.cell? ⟨u0.heap.size, 4, none⟩ = some (.float .f64 be1) := cell_of_row _ _ _ _ _ (0, 0) HB1.out.r0
 have c0_5 : w1.cell? ⟨u0.heap.size, 5, none⟩ = some (.float .f64 be2) := cell_of_row _ _ _ _ _ (0, 0) HB1.out.r0
 have c0_6 : w1.cell? ⟨u0.heap.size, 6, none⟩ = some (.float .f64 be3) := cell_of_row _ _ _ _ _ (0, 0) HB1.out.r0
 have c0_7 : w1.cell? ⟨u0.heap.size, 7, none⟩ = some (.slice A ncs cap) := cell_of_row _ _ _ _ _ (0, 0) HB1.out.r0
 go_wp2_with fail
 refine (FI.out A cap _ (HCX.out _ HB1.out.below)).mono ?_
 rintro e w2 ⟨pv, fv, lv, ev, rfl, hI0, hb2⟩
 have HB2 := Lib.hid (HB1.out.next hb2)
 clear c0_0 c0_1 c0_2 c0_3 c0_4 c0_5 c0_6 c0_7 hb2 HB1
 obtain ⟨D1, d1, rfl⟩ := own_slice hI0.p
 obtain ⟨D2, d2, rfl⟩ := own_slice hI0.f
 obtain ⟨D3, d3, rfl⟩ := own_slice hI0.l
 obtain ⟨D4, d4, rfl⟩ := own_slice hI0.e
 have HIq := Lib.hid hI0
 clear hI0
 have hl2 : u0.heap.size < w2.heap.size := (Array.getElem?_eq_some_iff.1 HB2.out.r0).1
 go_wp2_with (with_reducible show wpList _ _ _ (Oper.mk _ (.store 47 _ _) _ _ _ _ :: _) _ _; refine Hid.out ?_)
 refine Lib.hid ?_
 refine wpList_put rfl 47 _ _ rfl w2.heap.size #[.string ⟨#[]⟩, .string ⟨#[]⟩, .int .i64 0] _ 47 rfl rfl (heap_alloc2_old w2 _ _) (by kernel_rfl) rfl (by kernel_rfl) ?_
 intro wb hrb hgb
 have hbdb : Below w2.heap.size w2 wb := (((Below.refl w2.heap.size w2).alloc (Nat.le_refl _) _).alloc (by simp) _).grown hgb.out (by simp; omega) (fun k hk => by injection hk with hk; omega)
 have hrmb := (hgb.out.block (w2.heap.size + 1) (by simp) (by simp)).trans (heap_alloc2_new w2 _ _)
 go_wp2_with (with_reducible show wpList _ _ _ (Oper.mk _ (.store 32 _ _) _ _ _ _ :: _) _ _; refine Hid.out ?_)
 refine Lib.hid ?_
 refine wpList_put rfl 32 _ _ rfl (w2.heap.size + 1) #[.slice D1 i0.ph.length d1, .slice D2 i0.fl.length d2, .slice D3 i0.lv.length d3, .slice D4 i0.en.length d4] _ 32 rfl rfl hrmb (by kernel_rfl) rfl (by kernel_rfl) ?_
 intro wc hrc hgc
 have hbdc : Below w2.heap.size w2 wc := hbdb.grown hgc.out hbdb.size (fun k hk => by injection hk with hk; omega)
 have hrsc := (hgc.out.block w2.heap.size ((Array.getElem?_eq_some_iff.1 hrb.out).1) (by simp)).trans hrb.out
 have HI2 := Lib.hid ((HIq.out.below hbdc).mono (Nat.zero_le _))
 have lwa : u0.heap.size < w2.heap.size + 1 := by omega
 have HBc : Hid (Bx u0 [(w2.heap.size + 1, .cells #[.slice D1 i0.ph.length d1, .slice D2 i0.fl.length d2, .slice D3 i0.lv.length d3, .slice D4 i0.en.length d4] 32 (0, 0)), (w2.heap.size, .cells #[.string ⟨#[]⟩, .string ⟨#[]⟩, .int .i64 0] 47 (0, 0)), (u0.heap.size, .cells #[.int .i64 bf, .int .i64 bd, .int .i64 br, .int .i64 bp, .float .f64 be1, .float .f64 be2, .float .f64 be3, .slice A ncs cap] 26 (0, 0))] wc) := Lib.hid ⟨HB2.out.below.trans (hbdc.mono HB2.out.below.size), by simp only [List.mem_cons, List.not_mem_nil, or_false]; rintro q (rfl | rfl | rfl); exact hrc.out; exact hrsc; exact (hbdc.block _ hl2).trans HB2.out.r0⟩
 have hne : w2.heap.size ≠ w2.heap.size + 1 := by omega
 generalize w2.heap.size + 1 = gm at *
 generalize w2.heap.size = gs at *
 rename u0.heap.size < gm => hgm1
 rename u0.heap.size < gs => hgs1
 clear hrb hgb hbdb hrmb hrc hgc hbdc hrsc HIq HB2
 have c2_0 : wc.cell? ⟨u0.heap.size, 0, none⟩ = some (.int .i64 bf) := cell_of_row _ _ _ _ _ (0, 0) HBc.out.r2
 have c2_1 : wc.cell? ⟨u0.heap.size, 1, none⟩ = some (.int .i64 bd) := cell_of_row _ _ _ _ _ (0, 0) HBc.out.r2
 have c2_2 : wc.cell? ⟨u0.heap.size, 2, none⟩ = some (.int .i64 br) := cell_of_row _ _ _ _ _ (0, 0) HBc.out.r2
 have c2_3 : wc.cell? ⟨u0.heap.size, 3, none⟩ = some (.int .i64 bp) := cell_of_row _ _ _ _ _ (0, 0) HBc.out.r2
 have c2_4 : wc.cell? ⟨u0.heap.size, 4, none⟩ = some (.float .f64 be1) := cell_of_row _ _ _ _ _ (0, 0) HBc.out.r2
 have c2_5 : wc.cell? ⟨u0.heap.size, 5, none⟩ = some (.float .f64 be2) := cell_of_row _ _ _ _ _ (0, 0) HBc.out.r2
 have c2_6 : wc.cell? ⟨u0.heap.size, 6, none⟩ = some (.float .f64 be3) := cell_of_row _ _ _ _ _ (0, 0) HBc.out.r2
 have c2_7 : wc.cell? ⟨u0.heap.size, 7, none⟩ = some (.slice A ncs cap) := cell_of_row _ _ _ _ _ (0, 0) HBc.out.r2
 go_wp2_with fail
 refine (FR.out A cap _ (HVX.out _ HBc.out.below)).mono ?_
 rintro e w3 ⟨u, rfl, ⟨xA, xc, rfl, hx⟩, hb3⟩
 have HI3 := Lib.hid (HI2.out.below hb3)
 have HX := Lib.hid hx
 clear hx HI2
 have HB3 := Lib.hid (HBc.out.next hb3)
 clear c2_0 c2_1 c2_2 c2_3 c2_4 c2_5 c2_6 c2_7 hb3 HBc
 go_wp2_with fail
 clear FR FI FB HVX
 go_loopw [9] (fun vi wr => ∃ (k : Nat) (s : St) (m : Img) (pv fv lv ev : Value), k ≤ X.length ∧ vi = .int .i64 k ∧ JB s m ∧ IOwn wr 0 pv fv lv ev m ∧ RAt wr xA X ∧ Bx u0 [(gm, .cells #[pv, fv, lv, ev] 32 (0, 0)), (gs, .cells #[.string s.a, .string s.b, .int .i64 s.sel] 47 (0, 0)), (u0.heap.size, .cells #[.int .i64 bf, .int .i64 bd, .int .i64 br, .int .i64 bp, .float .f64 be1, .float .f64 be2, .float .f64 be3, .slice A ncs cap] 26 (0, 0))] wr) (fun vi _ => X.length - (intOf vi).toNat)
 case atStart => exact ⟨0, St.zero, i0, _, _, _, _, Nat.zero_le _, rfl, HJ0.out, HI3.out, HX.out, HB3.out⟩
 case round =>
  obtain ⟨k, s, m, pv, fv, lv, ev, hk, rfl, hj, hI, hx, hbr⟩ := hrel
  obtain ⟨G1, f1, rfl⟩ := own_slice hI.p
  obtain ⟨G2, f2, rfl⟩ := own_slice hI.f
  obtain ⟨G3, f3, rfl⟩ := own_slice hI.l
  obtain ⟨G4, f4, rfl⟩ := own_slice hI.e
  have HJ := Lib.hid hj
  have HI := Lib.hid hI
  have HXR := Lib.hid hx
  obtain ⟨sa, sb, ss⟩ := s
  simp only at hbr
  have HBR := Lib.hid hbr
  clear hj hI hx hbr HI3 HX HB3
  have hgm : gm < wr.heap.size := (Array.getElem?_eq_some_iff.1 HBR.out.r0).1
  have hgs : gs < wr.heap.size := (Array.getElem?_eq_some_iff.1 HBR.out.r1).1
  have hgb0 : u0.heap.size < wr.heap.size := (Array.getElem?_eq_some_iff.1 HBR.out.r2).1
  by_cases hlt : k < X.length
  ·have hlI : (k : Int) < (X.length : Int) := by omega
   have hlB : decide ((k : Int) < (X.length : Int)) = true := decide_eq_true hlI
   obtain ⟨bb, off, rfl, hbb, c0, c1, c2, c3, c4⟩ := HXR.out.at_ hlt
   have hok := HOK.out k hlt
   generalize X[k] = x at *
   have hst := HST.out ⟨sa, sb, ss⟩ m x HJ.out hok
   have FAX := Lib.hid (fun pv fv lv ev wx hc h => FA.out A cap ⟨sa, sb, ss⟩ pv fv lv ev m x 100000 wx hc HJ.out (by decide) h)
   obtain ⟨R, hR⟩ : ∃ R, AB ⟨sa, sb, ss⟩ m x 100000 = R := ⟨_, rfl⟩
   rw [hR] at FAX hst
   clear hR hok
   obtain ⟨⟨ta, tb, ts⟩, m', nn, er⟩ := R
   generalize hM2 : applyM m x = m2 at *
   clear hM2
   obtain ⟨x1, x2, x3, x4, x5⟩ := x
   simp only [Rc.agg, St.agg] at FAX
   simp only at c0 c1 c2 c3 c4
   have HCASE := Lib.hid hst
   clear hst FCu FP FSn FY FE FN HUC HUL HUD HUS
   have HRC := Lib.hid (fun (wx : World) (h : Below wr.heap.size wr wx) => (⟨(h.cell (p := ⟨bb, _, none⟩) hbb).trans c0, (h.cell (p := ⟨bb, _, none⟩) hbb).trans c1, (h.cell (p := ⟨bb, _, none⟩) hbb).trans c2, (h.cell (p := ⟨bb, _, none⟩) hbb).trans c3, (h.cell (p := ⟨bb, _, none⟩) hbb).trans c4⟩ : wx.cell? ⟨bb, off + k * 5, none⟩ = some (.int .i64 x1) ∧ wx.cell? ⟨bb, off + k * 5 + 1, none⟩ = some (.int .i64 x2) ∧ wx.cell? ⟨bb, off + k * 5 + 2, none⟩ = some (.int .i64 x3) ∧ wx.cell? ⟨bb, off + k * 5 + 3, none⟩ = some (.int .i64 x4) ∧ wx.cell? ⟨bb, off + k * 5 + 4, none⟩ = some (.int .i64 x5)))
   clear c0 c1 c2 c3 c4
   go_wp2_with fail
   refine ghostM [7, 8, 15, 16] (fun p γ L wx => St2 wr #[.string ta, .string tb, .int .i64 ts] m' nn er p (γ 7) (γ 8) (γ 10) (γ 13) (γ 14) (L 10) (L 13) (L 14) wx) (by kernel_rfl) (by kernel_rfl) (fun γ => St2.start) ?_
   apply GM.walk_plain (by kernel_rfl) (by kernel_rfl) (fun γ => by rfl)
   ·intro γ L p wx h1 h2 hup hlo hS K hK
    have HXx := HBR.out.next hS.bl
    obtain ⟨b0, b1, b2, b3, b4, b5, b6, b7⟩ := boxRow HXx.r2
    clear HXx
    have HK2 := Lib.hid hK
    have HS := Lib.hid hS
    clear hK h1 h2 hup hlo hS
    go_simp
    exact HK2.out _ HS.out
   try simp only [Act.put, setIfInBounds_toArray, set_cons_succ, set_cons_zero]
   apply GM.walk_plain (by kernel_rfl) (by kernel_rfl) (fun γ => by rfl)
   ·intro γ L p wx h1 h2 hup hlo hS K hK
    have HXx := HBR.out.next hS.bl
    have s0 := cell_of_row _ _ 0 _ _ (0, 0) HXx.r1
    have s1 := cell_of_row _ _ 1 _ _ (0, 0) HXx.r1
    have s2 := cell_of_row _ _ 2 _ _ (0, 0) HXx.r1
    simp only [List.getElem?_toArray, List.getElem?_cons_zero, List.getElem?_cons_succ] at s0 s1 s2
    clear HXx
    have HK2 := Lib.hid hK
    have HS := Lib.hid hS
    clear hK h1 h2 hup hlo hS
    go_simp
    exact HK2.out _ HS.out
   try simp only [Act.put, setIfInBounds_toArray, set_cons_succ, set_cons_zero]
   apply GM.walk_plain (by kernel_rfl) (by kernel_rfl) (fun γ => by rfl)
   ·intro γ L p wx h1 h2 hup hlo hS K hK
    obtain ⟨q0, q1, q2, q3⟩ := imRowCells (HBR.out.next hS.bl).r0
    have HK2 := Lib.hid hK
    have HS := Lib.hid hS
    clear hK h1 h2 hup hlo hS
    go_simp
    exact HK2.out _ HS.out
   try simp only [Act.put, setIfInBounds_toArray, set_cons_succ, set_cons_zero]
   apply GM.walk_plain (by kernel_rfl) (by kernel_rfl) (fun γ => by rfl)
   ·intro γ L p wx h1 h2 hup hlo hS K hK
    have HK2 := Lib.hid hK
    have HS := Lib.hid hS
    clear hK h1 h2 hup hlo hS
    go_simp
    exact HK2.out _ HS.out
   try simp only [Act.put, setIfInBounds_toArray, set_cons_succ, set_cons_zero]
   apply GM.walk_plain (by kernel_rfl) (by kernel_rfl) (fun γ => by rfl)
   ·intro γ L p wx h1 h2 hup hlo hS K hK
    have HK2 := Lib.hid hK
    have HS := Lib.hid hS
    clear hK h1 h2 hup hlo hS
    go_simp
    exact HK2.out _ HS.out
   try simp only [Act.put, setIfInBounds_toArray, set_cons_succ, set_cons_zero]
   apply GM.walk_plain (by kernel_rfl) (by kernel_rfl) (fun γ => by rfl)
   ·intro γ L p wx h1 h2 hup hlo hS K hK
    obtain ⟨c0, c1, c2, c3, c4⟩ := HRC.out wx hS.bl
    have HK2 := Lib.hid hK
    have HS := Lib.hid hS
    clear hK h1 h2 hup hlo hS
    go_simp
    exact HK2.out _ HS.out
   try simp only [Act.put, setIfInBounds_toArray, set_cons_succ, set_cons_zero]
   apply GM.walk_plain (by kernel_rfl) (by kernel_rfl) (fun γ => by rfl)
   ·intro γ L p wx h1 h2 hup hlo hS K hK
    obtain ⟨c0, c1, c2, c3, c4⟩ := HRC.out wx hS.bl
    have HK2 := Lib.hid hK
    have HS := Lib.hid hS
    clear hK h1 h2 hup hlo hS
    go_simp
    exact HK2.out _ HS.out
   try simp only [Act.put, setIfInBounds_toArray, set_cons_succ, set_cons_zero]
   apply GM.walk_turn 0 rfl (by kernel_rfl) (by decide) (.inl rfl) (fun γ => by rfl)
   ·intro γ L wx h1 h2 hS K hK
    have hbl := hS.bl
    have HK2 := Lib.hid hK
    have HS := Lib.hid hS
    clear hK h1 h2 hS
    go_simp
    go_at_call 16
    refine (FAX.out _ _ _ _ wx (HCX.out _ (HBR.out.next hbl).below) (HI.out.below hbl).view).mono ?_
    rintro e w' ⟨pv', fv', lv', ev', rfl, hI', hb'⟩
    exact HK2.out _ _ (HS.out.step1 hI' hb')
   try simp only [Act.put, setIfInBounds_toArray, set_cons_succ, set_cons_zero]
   apply GM.walk_turn 1 rfl (by kernel_rfl) (by decide) (.inr ⟨7, rfl, by kernel_rfl⟩) (fun γ => by rfl)
   ·intro γ L wx h1 h2 hS K hK
    have HK2 := Lib.hid hK
    have HS := Lib.hid hS
    clear hK h1 h2 hS
    go_simp
    exact HK2.out (γ 7) _ HS.out.step2
   try simp only [Act.put, setIfInBounds_toArray, set_cons_succ, set_cons_zero]
   apply GM.walk_plain (by kernel_rfl) (by kernel_rfl) (fun γ => by rfl)
   ·intro γ L p wx h1 h2 hup hlo hS K hK
    obtain ⟨pv', fv', lv', ev', hy', -, -, -⟩ := hS.tup (by have := hlo 1 8 rfl (h2 8 (by kernel_rfl)); omega)
    have HK2 := Lib.hid hK
    have HS := Lib.hid hS
    clear hK h1 h2 hup hlo hS
    rw [hy'] at HK2 ⊢
    clear hy'
    go_simp
    exact HK2.out _ HS.out
   try simp only [Act.put, setIfInBounds_toArray, set_cons_succ, set_cons_zero]
   apply GM.walk_ghost (by kernel_rfl) (by kernel_rfl) (fun γ => by rfl)
   ·intro γ L p wx h1 h2 hup hlo hS K hK
    have hp2 := hlo 1 8 rfl (h2 8 (by kernel_rfl))
    have hp3 := hup 3 16 rfl (by kernel_rfl)
    obtain ⟨pv', fv', lv', ev', hy', -, hI', hx'⟩ := hS.tup (by omega)
    have HK2 := Lib.hid hK
    have HS := Lib.hid (hS.ex (by omega) h1 (by omega) hI' hx')
    rw [hy'] at HK2 ⊢
    clear hK h1 h2 hS hy' hx' hI' hup hlo hp2 hp3
    go_simp
    exact HK2.out (.agg #[pv', fv', lv', ev']) _ HS.out
   try simp only [Act.put, setIfInBounds_toArray, set_cons_succ, set_cons_zero]
   apply GM.walk_plain (by kernel_rfl) (by kernel_rfl) (fun γ => by rfl)
   ·intro γ L p wx h1 h2 hup hlo hS K hK
    obtain ⟨pv', fv', lv', ev', hy', -, -, -⟩ := hS.tup (by have := hlo 1 8 rfl (h2 8 (by kernel_rfl)); omega)
    have HK2 := Lib.hid hK
    have HS := Lib.hid hS
    clear hK h1 h2 hup hlo hS
    rw [hy'] at HK2 ⊢
    clear hy'
    go_simp
    exact HK2.out _ HS.out
   try simp only [Act.put, setIfInBounds_toArray, set_cons_succ, set_cons_zero]
   apply GM.walk_plain (by kernel_rfl) (by kernel_rfl) (fun γ => by rfl)
   ·intro γ L p wx h1 h2 hup hlo hS K hK
    obtain ⟨pv', fv', lv', ev', hy', -, -, -⟩ := hS.tup (by have := hlo 1 8 rfl (h2 8 (by kernel_rfl)); omega)
    have HK2 := Lib.hid hK
    have HS := Lib.hid hS
    clear hK h1 h2 hup hlo hS
    rw [hy'] at HK2 ⊢
    clear hy'
    go_simp
    exact HK2.out _ HS.out
   try simp only [Act.put, setIfInBounds_toArray, set_cons_succ, set_cons_zero]
   apply GM.walk_ghost (by kernel_rfl) (by kernel_rfl) (fun γ => by rfl)
   ·intro γ L p wx h1 h2 hup hlo hS K hK
    have HK2 := Lib.hid hK
    have HS := Lib.hid hS
    have HH := Lib.hid h1
    clear hK h1 h2 hS hup hlo
    go_simp
    exact HK2.out _ _ (HS.out.alloc1 HH.out rfl)
   try simp only [Act.put, setIfInBounds_toArray, set_cons_succ, set_cons_zero]
   apply GM.walk_ghost (by kernel_rfl) (by kernel_rfl) (fun γ => by rfl)
   ·intro γ L p wx h1 h2 hup hlo hS K hK
    have HK2 := Lib.hid hK
    have HS := Lib.hid hS
    have HH := Lib.hid h1
    clear hK h1 h2 hS hup hlo
    go_simp
    exact HK2.out _ _ (HS.out.alloc2 HH.out rfl)
   try simp only [Act.put, setIfInBounds_toArray, set_cons_succ, set_cons_zero]
   apply GM.walk_turn 2 rfl (by kernel_rfl) (by decide) (.inr ⟨8, rfl, by kernel_rfl⟩) (fun γ => by rfl)
   ·intro γ L wx h1 h2 hS K hK
    obtain ⟨g, cs', hu, hge, hr0, hcs, -⟩ := hS.a1 (h2 13 (by kernel_rfl))
    exact wp_put 47 (.tmp 10) (.tmp 47) rfl g #[.string ta, .string tb, .int .i64 ts] _ _ hu rfl hr0 (by kernel_rfl) hcs (by kernel_rfl) (fun w' hr hgr => hK undef w' (hS.step3 (h2 13 (by kernel_rfl)) hu hge hr0 rfl hr.out hgr.out))
   try simp only [Act.put]
   apply GM.walk_turn 3 rfl (by kernel_rfl) (by decide) (.inr ⟨15, rfl, by kernel_rfl⟩) (fun γ => by rfl)
   ·intro γ L wx h1 h2 hS K hK
    obtain ⟨g, cs', hu, hge, hr0, hcs⟩ := hS.a2 (h2 14 (by kernel_rfl))
    obtain ⟨pv', fv', lv', ev', hI', hx', hy', hz', -⟩ := hS.c (by decide)
    have hz' := hz' (h2 10 (by kernel_rfl))
    exact wp_put 32 (.tmp 11) (.tmp 48) rfl g #[pv', fv', lv', ev'] _ _ hu hz' hr0 (by kernel_rfl) hcs (one4 hI') (fun w' hr hgr => hK undef w' (hS.step4 (h2 14 (by kernel_rfl)) (h2 10 (by kernel_rfl)) hu hge hr0 hI' hx' (hy' (by decide)) hz' hr.out hgr.out))
   try simp only [Act.put]
   apply GM.walk_plain (by kernel_rfl) (by kernel_rfl) (fun γ => by rfl)
   ·intro γ L p wx h1 h2 hup hlo hS K hK
    have HK2 := Lib.hid hK
    have HS := Lib.hid hS
    clear hK h1 h2 hup hlo hS
    go_simp
    exact HK2.out _ HS.out
   try simp only [Act.put, setIfInBounds_toArray, set_cons_succ, set_cons_zero]
   apply GM.walk_plain (by kernel_rfl) (by kernel_rfl) (fun γ => by rfl)
   ·intro γ L p wx h1 h2 hup hlo hS K hK
    have HK2 := Lib.hid hK
    have HS := Lib.hid hS
    clear hK h1 h2 hup hlo hS
    go_simp
    exact HK2.out _ HS.out
   try simp only [Act.put, setIfInBounds_toArray, set_cons_succ, set_cons_zero]
   refine GhostV.walk_nil (fun γ L w4 hall hx => ?_)
   have hSt : St2 wr #[.string ta, .string tb, .int .i64 ts] m' nn er 4 (γ 7) (γ 8) (γ 10) (γ 13) (γ 14) (L 10) (L 13) (L 14) w4 := hx.done (fun t ht => hall t (by simp only [List.mem_cons, List.not_mem_nil, or_false] at ht; rcases ht with rfl | rfl | rfl | rfl <;> decide))
   have hl3 : L 13 = true := hall 13 (by decide)
   clear hx hall
   obtain ⟨pv', fv', lv', ev', hI', -, -, -, hrow0⟩ := hSt.c (by decide)
   obtain ⟨go, hu2, hge2, hrow2⟩ := hrow0 (by decide)
   obtain ⟨gt, cs1, hu1, hge1, hrow1, -, hcs1⟩ := hSt.a1 hl3
   obtain rfl := hcs1 (by decide)
   have hbl := hSt.bl
   clear hSt hrow0 hcs1 hl3
   generalize γ 13 = v13 at *
   generalize γ 14 = v14 at *
   subst hu1 hu2
   generalize γ 7 = v7 at *
   generalize γ 8 = v8 at *
   generalize γ 10 = v10 at *
   obtain ⟨K1, g1, rfl⟩ := own_slice hI'.p
   obtain ⟨K2, g2, rfl⟩ := own_slice hI'.f
   obtain ⟨K3, g3, rfl⟩ := own_slice hI'.l
   obtain ⟨K4, g4, rfl⟩ := own_slice hI'.e
   have hne2 : gt ≠ go := fun e => by subst e; rw [hrow1] at hrow2; injection hrow2 with q; injection q with _ q _; exact absurd q (by decide)
   have HI4 := Lib.hid (hI'.mono (Nat.zero_le _))
   have HM4 := Lib.hid (HI.out.below hbl)
   have HX4 := Lib.hid (HXR.out.below hbl)
   have HB4 : Hid (Bx u0 [(go, .cells #[.slice K1 m'.ph.length g1, .slice K2 m'.fl.length g2, .slice K3 m'.lv.length g3, .slice K4 m'.en.length g4] 32 (0, 0)), (gt, .cells #[.string ta, .string tb, .int .i64 ts] 47 (0, 0)), (gm, .cells #[.slice G1 m.ph.length f1, .slice G2 m.fl.length f2, .slice G3 m.lv.length f3, .slice G4 m.en.length f4] 32 (0, 0)), (gs, .cells #[.string sa, .string sb, .int .i64 ss] 47 (0, 0)), (u0.heap.size, .cells #[.int .i64 bf, .int .i64 bd, .int .i64 br, .int .i64 bp, .float .f64 be1, .float .f64 be2, .float .f64 be3, .slice A ncs cap] 26 (0, 0))] w4) := Lib.hid ⟨(HBR.out.next hbl).below, by simp only [List.mem_cons, List.not_mem_nil, or_false]; rintro q (rfl | rfl | rfl | rfl | rfl); exact hrow2; exact hrow1; exact (HBR.out.next hbl).r0; exact (HBR.out.next hbl).r1; exact (HBR.out.next hbl).r2⟩
   have gl1 : gm < go := by omega
   have gl2 : gs < go := by omega
   have gl3 : gm < gt := by omega
   have gl4 : gs < gt := by omega
   clear hI' hrow1 hrow2 hbl HI HXR HBR HRC FAX
   rcases HCASE.out with ⟨-, hres⟩ | ⟨-, s2, n2, hres, hj2⟩
   ·injection hres with q1 q2
    injection q2 with q2 q3
    injection q3 with q3 q4
    subst q4
    clear q1 q2 q3 HST HCASE
    go_wp2_with fail
    go_roundw
    case rel => exact ⟨k + 1, ⟨sa, sb, ss⟩, m, _, _, _, _, by omega, by go_num, HJ.out, HM4.out, HX4.out, HB4.out.less (by simp only [List.mem_cons, List.not_mem_nil, or_false]; rintro p (rfl | rfl | rfl) <;> simp)⟩
    case measure => simp [intOf]; omega
   ·injection hres with q1 q2
    injection q2 with q2 q3
    injection q3 with q3 q4
    subst q1 q2 q3 q4
    have HJ2 := Lib.hid hj2
    clear hj2 HST HCASE
    go_wp2_with fail
    have hl3 := (Array.getElem?_eq_some_iff.1 HB4.out.r2).1
    have hl4 := (Array.getElem?_eq_some_iff.1 HB4.out.r3).1
    have hl1 := (Array.getElem?_eq_some_iff.1 HB4.out.r0).1
    have hl2 := (Array.getElem?_eq_some_iff.1 HB4.out.r1).1
    simp only at hl1 hl2 hl3 hl4
    refine ghostK [2, 3] (fun p γ wx => Lay w4 gs gm #[.string sa, .string sb, .int .i64 ss] #[.string ta, .string tb, .int .i64 ts] #[.slice G1 m.ph.length f1, .slice G2 m.fl.length f2, .slice G3 m.lv.length f3, .slice G4 m.en.length f4] #[.slice K1 m'.ph.length g1, .slice K2 m'.fl.length g2, .slice K3 m'.lv.length g3, .slice K4 m'.en.length g4] p wx) (by kernel_rfl) (by kernel_rfl) (fun γ => Lay.start HB4.out.r2) ?_
    apply GK.walk_free (by kernel_rfl) (fun γ => by rfl) (fun p γ wx w' h hb => h.quietB hb)
    ·intro γ p wx hS K hK
     have hrow := (hS.keep gt hl2 (by omega) (by omega)).trans HB4.out.r1
     have s0 := cell_of_row _ _ 0 _ _ (0, 0) hrow
     have s1 := cell_of_row _ _ 1 _ _ (0, 0) hrow
     have s2 := cell_of_row _ _ 2 _ _ (0, 0) hrow
     simp only [List.getElem?_toArray, List.getElem?_cons_zero, List.getElem?_cons_succ] at s0 s1 s2
     clear hrow
     have HK2 := Lib.hid hK
     clear hK hS
     go_simp
     exact HK2.out _ (Below.refl _ _)
    try simp only [Act.put, setIfInBounds_toArray, set_cons_succ, set_cons_zero]
    apply GK.walk_free (by kernel_rfl) (fun γ => by rfl) (fun p γ wx w' h hb => h.quietB hb)
    ·intro γ p wx hS K hK
     obtain ⟨q0, q1, q2, q3⟩ := imRowCells ((hS.keep go hl1 (by omega) (by omega)).trans HB4.out.r0)
     have HK2 := Lib.hid hK
     clear hK hS
     go_simp
     exact HK2.out _ (Below.refl _ _)
    try simp only [Act.put, setIfInBounds_toArray, set_cons_succ, set_cons_zero]
    apply GK.walk_turn 0 rfl (by kernel_rfl) (by decide) (.inl rfl) (fun γ => by rfl)
    ·intro γ wx hS K hK
     exact wp_put 47 (.tmp 6) (.tmp 53) rfl gs #[.string ta, .string tb, .int .i64 ts] #[.string sa, .string sb, .int .i64 ss] _ rfl rfl (((hS.q0 rfl).block gs hl4).trans HB4.out.r3) (by kernel_rfl) rfl (by kernel_rfl) (fun w' hr hgr => hK undef w' (hS.step1 (Ne.symm hne) (Nat.lt_of_lt_of_le hl3 hS.le) hr.out hgr.out))
    try simp only [Act.put]
    apply GK.walk_turn 1 rfl (by kernel_rfl) (by decide) (.inr ⟨2, rfl, by kernel_rfl⟩) (fun γ => by rfl)
    ·intro γ wx hS K hK
     exact wp_put 32 (.tmp 7) (.tmp 54) rfl gm #[.slice K1 m'.ph.length g1, .slice K2 m'.fl.length g2, .slice K3 m'.lv.length g3, .slice K4 m'.en.length g4] #[.slice G1 m.ph.length f1, .slice G2 m.fl.length f2, .slice G3 m.lv.length f3, .slice G4 m.en.length f4] _ rfl rfl (hS.z2 (by decide)) (by kernel_rfl) rfl (by kernel_rfl) (fun w' hr hgr => hK undef w' (hS.step2 hr.out hgr.out))
    try simp only [Act.put]
    refine GhostV.walk_nil (fun γ L w7 hall hx => ?_)
    have hLay := hx.done (fun t ht => hall t (by simp only [List.mem_cons, List.not_mem_nil, or_false] at ht; rcases ht with rfl | rfl <;> decide))
    clear hx hall
    obtain ⟨wa, wb, l1, l2, l3, l4, l5⟩ := hLay.q2 rfl
    have hra1 := (l1.block gs hl4).trans HB4.out.r3
    have hrb1 := (l2.block gm (by have := l1.size; omega) (fun e => hne (Option.some.inj e).symm)).trans ((l1.block gm hl3).trans HB4.out.r2)
    have hrow1 := (l4.block gs (Array.getElem?_eq_some_iff.1 l3).1 (fun e => hne (Option.some.inj e))).trans l3
    have HI7 := Lib.hid (((HI4.out.below l1).stKept hra1 l2).imKept hrb1 l4)
    have HX7 := Lib.hid (((HX4.out.below l1).stPut hra1 l2).imPut hrb1 l4)
    have HB7 : Hid (Bx u0 [(gm, .cells #[.slice K1 m'.ph.length g1, .slice K2 m'.fl.length g2, .slice K3 m'.lv.length g3, .slice K4 m'.en.length g4] 32 (0, 0)), (gs, .cells #[.string ta, .string tb, .int .i64 ts] 47 (0, 0)), (u0.heap.size, .cells #[.int .i64 bf, .int .i64 bd, .int .i64 br, .int .i64 bp, .float .f64 be1, .float .f64 be2, .float .f64 be3, .slice A ncs cap] 26 (0, 0))] w7) := Lib.hid ⟨((HB4.out.below.trans (l1.mono HB4.out.below.size)).trans (below_grown l2 (by have := HB4.out.below.size; have := l1.size; omega) (fun k hk => by injection hk with hk; omega))).trans (below_grown l4 (by have := HB4.out.below.size; have := l1.size; have := l2.size; omega) (fun k hk => by injection hk with hk; omega)), by simp only [List.mem_cons, List.not_mem_nil, or_false]; rintro q (rfl | rfl | rfl); exact l5; exact hrow1; exact (hLay.keep _ (Array.getElem?_eq_some_iff.1 HB4.out.r4).1 (by omega) (by omega)).trans HB4.out.r4⟩
    clear hLay l1 l2 l3 l4 l5 hra1 hrb1 hrow1 HB4 HI4 HX4
    go_wp2_with fail
    go_roundw
    case rel => exact ⟨k + 1, ⟨ta, tb, ts⟩, _, _, _, _, _, by omega, by go_num, HJ2.out, HI7.out, HX7.out, HB7.out⟩
    case measure => simp [intOf]; omega
  ·obtain rfl : k = X.length := by omega
   have hlI : ¬ (X.length : Int) < (X.length : Int) := by omega
   clear HXR HOK HST
   have hu := HUL.out ⟨sa, sb, ss⟩ m HJ.out
   obtain ⟨hu0, hu1, hu2, hu3⟩ := hu
   have hud := HUD.out ⟨sa, sb, ss⟩ m
   have hus := HUS.out ⟨sa, sb, ss⟩ m HJ.out
   have HUX := Lib.hid (fun bud h0 => HUC.out ⟨sa, sb, ss⟩ m bud HJ.out h0)
   have FAX := Lib.hid (fun pv fv lv ev bud wx hc h0 h => FA.out A cap ⟨sa, sb, ss⟩ pv fv lv ev m ⟨4, 0, 0, 0, 1⟩ bud wx hc HJ.out h0 h)
   have FPX := Lib.hid (fun pv fv lv ev wx hc h => FP.out A cap pv fv lv ev ⟨sa, sb, ss⟩ m wx hc HJ.out h)
   have FSX := Lib.hid (fun pv fv lv ev wx hc h => FSn.out A cap pv fv lv ev ⟨sa, sb, ss⟩ m wx hc HJ.out h)
   have FCX := Lib.hid (fun wx => FCu.out ⟨sa, sb, ss⟩ wx)
   have HCU := Lib.hid (fun s m (h : JB s m) => HJC.out s m h)
   clear HUL HUD HUS HUC FA FP FSn FCu HJC
   generalize applyM m ⟨4, 0, 0, 0, 1⟩ = m2 at *
   generalize (St.mk sa sb ss).cur = cu at *
   generalize NU ⟨sa, sb, ss⟩ m = need at *
   simp only [Rc.agg, St.agg] at FAX FPX FCX
   have HUS := Lib.hid hus
   have HUD := Lib.hid hud
   clear hus hud
   have c0_0 : wr.cell? ⟨gm, 0, none⟩ = some (.slice G1 m.ph.length f1) := cell_of_row _ _ _ _ _ (0, 0) HBR.out.r0
   have c0_1 : wr.cell? ⟨gm, 1, none⟩ = some (.slice G2 m.fl.length f2) := cell_of_row _ _ _ _ _ (0, 0) HBR.out.r0
   have c0_2 : wr.cell? ⟨gm, 2, none⟩ = some (.slice G3 m.lv.length f3) := cell_of_row _ _ _ _ _ (0, 0) HBR.out.r0
   have c0_3 : wr.cell? ⟨gm, 3, none⟩ = some (.slice G4 m.en.length f4) := cell_of_row _ _ _ _ _ (0, 0) HBR.out.r0
   have c1_0 : wr.cell? ⟨gs, 0, none⟩ = some (.string sa) := cell_of_row _ _ _ _ _ (0, 0) HBR.out.r1
   have c1_1 : wr.cell? ⟨gs, 1, none⟩ = some (.string sb) := cell_of_row _ _ _ _ _ (0, 0) HBR.out.r1
   have c1_2 : wr.cell? ⟨gs, 2, none⟩ = some (.int .i64 ss) := cell_of_row _ _ _ _ _ (0, 0) HBR.out.r1
   have c2_0 : wr.cell? ⟨u0.heap.size, 0, none⟩ = some (.int .i64 bf) := cell_of_row _ _ _ _ _ (0, 0) HBR.out.r2
   have c2_1 : wr.cell? ⟨u0.heap.size, 1, none⟩ = some (.int .i64 bd) := cell_of_row _ _ _ _ _ (0, 0) HBR.out.r2
   have c2_2 : wr.cell? ⟨u0.heap.size, 2, none⟩ = some (.int .i64 br) := cell_of_row _ _ _ _ _ (0, 0) HBR.out.r2
   have c2_3 : wr.cell? ⟨u0.heap.size, 3, none⟩ = some (.int .i64 bp) := cell_of_row _ _ _ _ _ (0, 0) HBR.out.r2
   have c2_4 : wr.cell? ⟨u0.heap.size, 4, none⟩ = some (.float .f64 be1) := cell_of_row _ _ _ _ _ (0, 0) HBR.out.r2
   have c2_5 : wr.cell? ⟨u0.heap.size, 5, none⟩ = some (.float .f64 be2) := cell_of_row _ _ _ _ _ (0, 0) HBR.out.r2
   have c2_6 : wr.cell? ⟨u0.heap.size, 6, none⟩ = some (.float .f64 be3) := cell_of_row _ _ _ _ _ (0, 0) HBR.out.r2
   have c2_7 : wr.cell? ⟨u0.heap.size, 7, none⟩ = some (.slice A ncs cap) := cell_of_row _ _ _ _ _ (0, 0) HBR.out.r2
   go_wp2_with fail
   clear c0_0 c0_1 c0_2 c0_3 c1_0 c1_1 c1_2 c2_0 c2_1 c2_2 c2_3 c2_4 c2_5 c2_6 c2_7
   obtain ⟨w5, hw5⟩ : ∃ w5, w5 = wr.alloc (.cells #[.int .i64 4, .int .i64 0, .int .i64 0, .int .i64 0, .int .i64 1] 41) := ⟨_, rfl⟩
   have hr5 : w5.heap[wr.heap.size]? = some (.cells #[.int .i64 4, .int .i64 0, .int .i64 0, .int .i64 0, .int .i64 1] 41 (0, 0)) := by rw [hw5]; exact heap_alloc_new _ _
   have hbd5 : Below wr.heap.size wr w5 := by rw [hw5]; exact (Below.refl _ _).alloc (Nat.le_refl _) _
   rw [← hw5]
   have HI5 := Lib.hid (HI.out.below hbd5)
   have HB5 := Lib.hid (HBR.out.make hr5 hbd5)
   have hgq : wr.heap.size < w5.heap.size := (Array.getElem?_eq_some_iff.1 hr5).1
   generalize wr.heap.size = gq at *
   clear hw5 hr5 hbd5 HI HBR
   have hcw : IntKind.i64.wrap ((cu.size : Int) + 6) = (cu.size : Int) + 6 := IntWalk.i64_in _ (by omega)
   refine Bag.region (fun wx => Below w5.heap.size w5 wx) (by kernel_rfl) (by kernel_rfl) (Below.refl _ _).drew ?_
   iterate 7 (first
       | (apply Bag.walk_yes (by rfl)
          (intro wx hx K hK
           have HXx := HB5.out.next hx
           have s0 := cell_of_row _ _ 0 _ _ (0, 0) HXx.r2
           have s1 := cell_of_row _ _ 1 _ _ (0, 0) HXx.r2
           have s2 := cell_of_row _ _ 2 _ _ (0, 0) HXx.r2
           simp only [List.getElem?_toArray, List.getElem?_cons_zero, List.getElem?_cons_succ] at s0 s1 s2
           have b2 := (boxRow HXx.r3).2.2.1
           clear HXx
           first
             | (go_simp
                first
                 | (go_at_call 21; (with_reducible refine (FCX.out _).mono ?_); rintro e x1 ⟨rfl, hb⟩; exact hK _ (hx.trans (hb.mono hx.size)))
                 | (go_at_K; exact hK _ hx)))
          rfl)
       | (refine Bag.walk_no (by rfl) ?_; simp only [Act.put, List.setIfInBounds_toArray, List.set_cons_succ, List.set_cons_zero]))
   refine Bag.walk_nil (fun w6 hb6 => ?_)
   have HB6 := Lib.hid (HB5.out.next hb6)
   have HI6 := Lib.hid (HI5.out.below hb6)
   clear hb6 HB5 HI5 hcw
   go_upto_if 62 with fail
   go_cut [15] from 16 to 75 (fun v15 wx => v15 = .int .i64 need ∧ Bx u0 [(gq, .cells #[.int .i64 4, .int .i64 0, .int .i64 0, .int .i64 0, .int .i64 1] 41 (0, 0)), (gm, .cells #[.slice G1 m.ph.length f1, .slice G2 m.fl.length f2, .slice G3 m.lv.length f3, .slice G4 m.en.length f4] 32 (0, 0)), (gs, .cells #[.string sa, .string sb, .int .i64 ss] 47 (0, 0)), (u0.heap.size, .cells #[.int .i64 bf, .int .i64 bd, .int .i64 br, .int .i64 bp, .float .f64 be1, .float .f64 be2, .float .f64 be3, .slice A ncs cap] 26 (0, 0))] wx ∧ IOwn wx 0 (.slice G1 m.ph.length f1) (.slice G2 m.fl.length f2) (.slice G3 m.lv.length f3) (.slice G4 m.en.length f4) m)
   case first =>
    have hud := HUD.out
    by_cases hsz : (cu.size : Int) + 6 ≤ br
    ·rw [if_pos hsz] at hud
     have hdz : decide (br < (cu.size : Int) + 6) = false := decide_eq_false (by omega)
     go_wp2_with fail
     go_meet
     exact ⟨by rw [hud]; rfl, HB6.out, HI6.out⟩
    ·rw [if_neg hsz] at hud
     have hdz : decide (br < (cu.size : Int) + 6) = true := decide_eq_true (by omega)
     have c0_0 : w6.cell? ⟨gq, 0, none⟩ = some (.int .i64 4) := cell_of_row _ _ _ _ _ (0, 0) HB6.out.r0
     have c0_1 : w6.cell? ⟨gq, 1, none⟩ = some (.int .i64 0) := cell_of_row _ _ _ _ _ (0, 0) HB6.out.r0
     have c0_2 : w6.cell? ⟨gq, 2, none⟩ = some (.int .i64 0) := cell_of_row _ _ _ _ _ (0, 0) HB6.out.r0
     have c0_3 : w6.cell? ⟨gq, 3, none⟩ = some (.int .i64 0) := cell_of_row _ _ _ _ _ (0, 0) HB6.out.r0
     have c0_4 : w6.cell? ⟨gq, 4, none⟩ = some (.int .i64 1) := cell_of_row _ _ _ _ _ (0, 0) HB6.out.r0
     have c1_0 : w6.cell? ⟨gm, 0, none⟩ = some (.slice G1 m.ph.length f1) := cell_of_row _ _ _ _ _ (0, 0) HB6.out.r1
     have c1_1 : w6.cell? ⟨gm, 1, none⟩ = some (.slice G2 m.fl.length f2) := cell_of_row _ _ _ _ _ (0, 0) HB6.out.r1
     have c1_2 : w6.cell? ⟨gm, 2, none⟩ = some (.slice G3 m.lv.length f3) := cell_of_row _ _ _ _ _ (0, 0) HB6.out.r1
     have c1_3 : w6.cell? ⟨gm, 3, none⟩ = some (.slice G4 m.en.length f4) := cell_of_row _ _ _ _ _ (0, 0) HB6.out.r1
     have c3_0 : w6.cell? ⟨u0.heap.size, 0, none⟩ = some (.int .i64 bf) := cell_of_row _ _ _ _ _ (0, 0) HB6.out.r3
     have c3_1 : w6.cell? ⟨u0.heap.size, 1, none⟩ = some (.int .i64 bd) := cell_of_row _ _ _ _ _ (0, 0) HB6.out.r3
     have c3_2 : w6.cell? ⟨u0.heap.size, 2, none⟩ = some (.int .i64 br) := cell_of_row _ _ _ _ _ (0, 0) HB6.out.r3
     have c3_3 : w6.cell? ⟨u0.heap.size, 3, none⟩ = some (.int .i64 bp) := cell_of_row _ _ _ _ _ (0, 0) HB6.out.r3
     have c3_4 : w6.cell? ⟨u0.heap.size, 4, none⟩ = some (.float .f64 be1) := cell_of_row _ _ _ _ _ (0, 0) HB6.out.r3
     have c3_5 : w6.cell? ⟨u0.heap.size, 5, none⟩ = some (.float .f64 be2) := cell_of_row _ _ _ _ _ (0, 0) HB6.out.r3
     have c3_6 : w6.cell? ⟨u0.heap.size, 6, none⟩ = some (.float .f64 be3) := cell_of_row _ _ _ _ _ (0, 0) HB6.out.r3
     have c3_7 : w6.cell? ⟨u0.heap.size, 7, none⟩ = some (.slice A ncs cap) := cell_of_row _ _ _ _ _ (0, 0) HB6.out.r3
     go_wp2_with fail
     refine (FPX.out _ _ _ _ _ (HCX.out _ HB6.out.below) HI6.out.view).mono ?_
     rintro e w7 ⟨pv, fv, lv, ev, rfl, hI0, hb7⟩
     have HI6 := Lib.hid (HI6.out.below hb7)
     have HB7 := Lib.hid (HB6.out.next hb7)
     clear c0_0 c0_1 c0_2 c0_3 c0_4 c1_0 c1_1 c1_2 c1_3 c3_0 c3_1 c3_2 c3_3 c3_4 c3_5 c3_6 c3_7 hb7 HB6
     have hI := hI0.mono (Nat.zero_le _)
     clear hI0
     obtain ⟨P1, p1, rfl⟩ := own_slice hI.p
     obtain ⟨P2, p2, rfl⟩ := own_slice hI.f
     obtain ⟨P3, p3, rfl⟩ := own_slice hI.l
     obtain ⟨P4, p4, rfl⟩ := own_slice hI.e
     have HIq := Lib.hid hI
     clear hI
     have ld0 : gq < w7.heap.size := (Array.getElem?_eq_some_iff.1 HB7.out.r0).1
     have ld1 : gm < w7.heap.size := (Array.getElem?_eq_some_iff.1 HB7.out.r1).1
     have ld2 : gs < w7.heap.size := (Array.getElem?_eq_some_iff.1 HB7.out.r2).1
     have ld3 : u0.heap.size < w7.heap.size := (Array.getElem?_eq_some_iff.1 HB7.out.r3).1
     go_wp2_with (with_reducible show wpList _ _ _ (Oper.mk _ (.store 32 _ _) _ _ _ _ :: _) _ _; refine Hid.out ?_)
     refine Lib.hid ?_
     refine wpList_put rfl 32 _ _ rfl w7.heap.size #[.slice P1 m2.ph.length p1, .slice P2 m2.fl.length p2, .slice P3 m2.lv.length p3, .slice P4 m2.en.length p4] _ 32 rfl rfl (heap_alloc_new w7 _) (by kernel_rfl) rfl (by kernel_rfl) ?_
     intro w8 hr8 hg8
     have hbd8 : Below w7.heap.size w7 w8 := ((Below.refl w7.heap.size w7).alloc (Nat.le_refl _) _).grown hg8.out (by simp) (fun k hk => by injection hk with hk; omega)
     have lw8 : u0.heap.size ≤ w7.heap.size := HB7.out.below.size
     have HP := Lib.hid (HIq.out.below hbd8)
     have HI6 := Lib.hid (HI6.out.below hbd8)
     have HB8 := Lib.hid (HB7.out.make hr8.out hbd8)
     clear hr8 hg8 hbd8 HB7 HIq
     generalize w7.heap.size = gp at *
     have c0_0 : w8.cell? ⟨gp, 0, none⟩ = some (.slice P1 m2.ph.length p1) := cell_of_row _ _ _ _ _ (0, 0) HB8.out.r0
     have c0_1 : w8.cell? ⟨gp, 1, none⟩ = some (.slice P2 m2.fl.length p2) := cell_of_row _ _ _ _ _ (0, 0) HB8.out.r0
     have c0_2 : w8.cell? ⟨gp, 2, none⟩ = some (.slice P3 m2.lv.length p3) := cell_of_row _ _ _ _ _ (0, 0) HB8.out.r0
     have c0_3 : w8.cell? ⟨gp, 3, none⟩ = some (.slice P4 m2.en.length p4) := cell_of_row _ _ _ _ _ (0, 0) HB8.out.r0
     have c4_0 : w8.cell? ⟨u0.heap.size, 0, none⟩ = some (.int .i64 bf) := cell_of_row _ _ _ _ _ (0, 0) HB8.out.r4
     have c4_1 : w8.cell? ⟨u0.heap.size, 1, none⟩ = some (.int .i64 bd) := cell_of_row _ _ _ _ _ (0, 0) HB8.out.r4
     have c4_2 : w8.cell? ⟨u0.heap.size, 2, none⟩ = some (.int .i64 br) := cell_of_row _ _ _ _ _ (0, 0) HB8.out.r4
     have c4_3 : w8.cell? ⟨u0.heap.size, 3, none⟩ = some (.int .i64 bp) := cell_of_row _ _ _ _ _ (0, 0) HB8.out.r4
     have c4_4 : w8.cell? ⟨u0.heap.size, 4, none⟩ = some (.float .f64 be1) := cell_of_row _ _ _ _ _ (0, 0) HB8.out.r4
     have c4_5 : w8.cell? ⟨u0.heap.size, 5, none⟩ = some (.float .f64 be2) := cell_of_row _ _ _ _ _ (0, 0) HB8.out.r4
     have c4_6 : w8.cell? ⟨u0.heap.size, 6, none⟩ = some (.float .f64 be3) := cell_of_row _ _ _ _ _ (0, 0) HB8.out.r4
     have c4_7 : w8.cell? ⟨u0.heap.size, 7, none⟩ = some (.slice A ncs cap) := cell_of_row _ _ _ _ _ (0, 0) HB8.out.r4
     go_wp2_with fail
     refine (FSX.out _ _ _ _ _ (HCX.out _ HB8.out.below) HP.out.view).mono ?_
     rintro e w9 ⟨v, rfl, hO, hb9⟩
     have HI6 := Lib.hid (HI6.out.below hb9)
     have HB9 := Lib.hid (HB8.out.next hb9)
     clear c0_0 c0_1 c0_2 c0_3 c4_0 c4_1 c4_2 c4_3 c4_4 c4_5 c4_6 c4_7 hb9 HB8
     obtain ⟨-, vA, vc, rfl, -⟩ := RV.of_own hO
     clear hO
     have hm1 : IntKind.i64.wrap (6 * ((snapM m2).length : Int)) = 6 * ((snapM m2).length : Int) := IntWalk.i64_in _ (by omega)
     have hm2 : IntKind.i64.wrap (2 + 6 * ((snapM m2).length : Int)) = 2 + 6 * ((snapM m2).length : Int) := IntWalk.i64_in _ (by omega)
     go_wp2_with fail
     go_meet
     exact ⟨by rw [hud]; simp, HB9.out.less (by simp only [List.mem_cons, List.not_mem_nil, or_false]; rintro p (rfl | rfl | rfl | rfl) <;> simp), HI6.out⟩
   case rest =>
    obtain ⟨rfl, hb7, hI7⟩ := hcut
    have HB7 := Lib.hid hb7
    have HI7 := Lib.hid hI7
    clear hb7 hI7 HB6 HI6 FPX FSX FCX HUD
    go_wp2_with fail
    go_loopw [18] (fun vi wr => ∃ (k : Nat), (k : Int) ≤ need + 2 ∧ vi = .int .i64 k ∧ Bx u0 [(gq, .cells #[.int .i64 4, .int .i64 0, .int .i64 0, .int .i64 0, .int .i64 1] 41 (0, 0)), (gm, .cells #[.slice G1 m.ph.length f1, .slice G2 m.fl.length f2, .slice G3 m.lv.length f3, .slice G4 m.en.length f4] 32 (0, 0)), (gs, .cells #[.string sa, .string sb, .int .i64 ss] 47 (0, 0)), (u0.heap.size, .cells #[.int .i64 bf, .int .i64 bd, .int .i64 br, .int .i64 bp, .float .f64 be1, .float .f64 be2, .float .f64 be3, .slice A ncs cap] 26 (0, 0))] wr ∧ IOwn wr 0 (.slice G1 m.ph.length f1) (.slice G2 m.fl.length f2) (.slice G3 m.lv.length f3) (.slice G4 m.en.length f4) m) (fun vi _ => (need + 2 - intOf vi).toNat)
    case atStart => exact ⟨0, by omega, rfl, HB7.out, HI7.out⟩
    case round =>
     obtain ⟨k, hk, rfl, hbr, hI⟩ := hrel
     have HB8 := Lib.hid hbr
     have HI := Lib.hid hI
     clear hbr hI HB7 HI7
     by_cases hkn : (k : Int) ≤ need + 1
     ·have hkw : IntKind.i64.wrap (need + 1) = need + 1 := IntWalk.i64_in _ (by omega)
      have hkB : decide ((k : Int) ≤ need + 1) = true := decide_eq_true hkn
      rcases HUX.out (k : Int) (by omega) with ⟨hlt, s', hR, hcut⟩ | ⟨hge, s', hR, hjrn⟩
      ·have FA1 := Lib.hid (fun pv fv lv ev wx hc h => FAX.out pv fv lv ev (k : Int) wx hc ⟨by omega, by omega⟩ h)
       rw [hR] at FA1
       obtain ⟨ta, tb, ts⟩ := s'
       have HCUT := Lib.hid hcut
       clear hcut hR
       have hb1 : decide ((k : Int) < need) = true := decide_eq_true hlt
       have hb2 : decide (need ≤ (k : Int)) = false := decide_eq_false (by omega)
       have c0_0 : wr.cell? ⟨gq, 0, none⟩ = some (.int .i64 4) := cell_of_row _ _ _ _ _ (0, 0) HB8.out.r0
       have c0_1 : wr.cell? ⟨gq, 1, none⟩ = some (.int .i64 0) := cell_of_row _ _ _ _ _ (0, 0) HB8.out.r0
       have c0_2 : wr.cell? ⟨gq, 2, none⟩ = some (.int .i64 0) := cell_of_row _ _ _ _ _ (0, 0) HB8.out.r0
       have c0_3 : wr.cell? ⟨gq, 3, none⟩ = some (.int .i64 0) := cell_of_row _ _ _ _ _ (0, 0) HB8.out.r0
       have c0_4 : wr.cell? ⟨gq, 4, none⟩ = some (.int .i64 1) := cell_of_row _ _ _ _ _ (0, 0) HB8.out.r0
       have c1_0 : wr.cell? ⟨gm, 0, none⟩ = some (.slice G1 m.ph.length f1) := cell_of_row _ _ _ _ _ (0, 0) HB8.out.r1
       have c1_1 : wr.cell? ⟨gm, 1, none⟩ = some (.slice G2 m.fl.length f2) := cell_of_row _ _ _ _ _ (0, 0) HB8.out.r1
       have c1_2 : wr.cell? ⟨gm, 2, none⟩ = some (.slice G3 m.lv.length f3) := cell_of_row _ _ _ _ _ (0, 0) HB8.out.r1
       have c1_3 : wr.cell? ⟨gm, 3, none⟩ = some (.slice G4 m.en.length f4) := cell_of_row _ _ _ _ _ (0, 0) HB8.out.r1
       have c2_0 : wr.cell? ⟨gs, 0, none⟩ = some (.string sa) := cell_of_row _ _ _ _ _ (0, 0) HB8.out.r2
       have c2_1 : wr.cell? ⟨gs, 1, none⟩ = some (.string sb) := cell_of_row _ _ _ _ _ (0, 0) HB8.out.r2
       have c2_2 : wr.cell? ⟨gs, 2, none⟩ = some (.int .i64 ss) := cell_of_row _ _ _ _ _ (0, 0) HB8.out.r2
       have c3_0 : wr.cell? ⟨u0.heap.size, 0, none⟩ = some (.int .i64 bf) := cell_of_row _ _ _ _ _ (0, 0) HB8.out.r3
       have c3_1 : wr.cell? ⟨u0.heap.size, 1, none⟩ = some (.int .i64 bd) := cell_of_row _ _ _ _ _ (0, 0) HB8.out.r3
       have c3_2 : wr.cell? ⟨u0.heap.size, 2, none⟩ = some (.int .i64 br) := cell_of_row _ _ _ _ _ (0, 0) HB8.out.r3
       have c3_3 : wr.cell? ⟨u0.heap.size, 3, none⟩ = some (.int .i64 bp) := cell_of_row _ _ _ _ _ (0, 0) HB8.out.r3
       have c3_4 : wr.cell? ⟨u0.heap.size, 4, none⟩ = some (.float .f64 be1) := cell_of_row _ _ _ _ _ (0, 0) HB8.out.r3
       have c3_5 : wr.cell? ⟨u0.heap.size, 5, none⟩ = some (.float .f64 be2) := cell_of_row _ _ _ _ _ (0, 0) HB8.out.r3
       have c3_6 : wr.cell? ⟨u0.heap.size, 6, none⟩ = some (.float .f64 be3) := cell_of_row _ _ _ _ _ (0, 0) HB8.out.r3
       have c3_7 : wr.cell? ⟨u0.heap.size, 7, none⟩ = some (.slice A ncs cap) := cell_of_row _ _ _ _ _ (0, 0) HB8.out.r3
       go_wp2_with fail
       refine (FA1.out _ _ _ _ _ (HCX.out _ HB8.out.below) HI.out.view).mono ?_
       rintro e w9 ⟨pv, fv, lv, ev, rfl, hI0, hb9⟩
       have HI := Lib.hid (HI.out.below hb9)
       have HB9 := Lib.hid (HB8.out.next hb9)
       clear c0_0 c0_1 c0_2 c0_3 c0_4 c1_0 c1_1 c1_2 c1_3 c2_0 c2_1 c2_2 c3_0 c3_1 c3_2 c3_3 c3_4 c3_5 c3_6 c3_7 hb9 HB8
       obtain ⟨R1, r1, rfl⟩ := own_slice hI0.p
       obtain ⟨R2, r2, rfl⟩ := own_slice hI0.f
       obtain ⟨R3, r3, rfl⟩ := own_slice hI0.l
       obtain ⟨R4, r4, rfl⟩ := own_slice hI0.e
       have HIq := Lib.hid hI0
       clear hI0
       have ld0 : gq < w9.heap.size := (Array.getElem?_eq_some_iff.1 HB9.out.r0).1
       have ld1 : gm < w9.heap.size := (Array.getElem?_eq_some_iff.1 HB9.out.r1).1
       have ld2 : gs < w9.heap.size := (Array.getElem?_eq_some_iff.1 HB9.out.r2).1
       have ld3 : u0.heap.size < w9.heap.size := (Array.getElem?_eq_some_iff.1 HB9.out.r3).1
       have lwq : u0.heap.size ≤ w9.heap.size := HB9.out.below.size
       go_wp2_with (with_reducible show wpList _ _ _ (Oper.mk _ (.store 47 _ _) _ _ _ _ :: _) _ _; refine Hid.out ?_)
       refine Lib.hid ?_
       refine wpList_put rfl 47 _ _ rfl w9.heap.size #[.string ta, .string tb, .int .i64 ts] _ 47 rfl rfl (heap_alloc2_old w9 _ _) (by kernel_rfl) rfl (by kernel_rfl) ?_
       intro wb hrb hgb
       have hbdb : Below w9.heap.size w9 wb := (((Below.refl w9.heap.size w9).alloc (Nat.le_refl _) _).alloc (by simp) _).grown hgb.out (by simp; omega) (fun k hk => by injection hk with hk; omega)
       have hrmb := (hgb.out.block (w9.heap.size + 1) (by simp) (by simp)).trans (heap_alloc2_new w9 _ _)
       go_wp2_with (with_reducible show wpList _ _ _ (Oper.mk _ (.store 32 _ _) _ _ _ _ :: _) _ _; refine Hid.out ?_)
       refine Lib.hid ?_
       refine wpList_put rfl 32 _ _ rfl (w9.heap.size + 1) #[.slice R1 m.ph.length r1, .slice R2 m.fl.length r2, .slice R3 m.lv.length r3, .slice R4 m.en.length r4] _ 32 rfl rfl hrmb (by kernel_rfl) rfl (by kernel_rfl) ?_
       intro w10 hrc hgc
       have hbdc : Below w9.heap.size w9 w10 := hbdb.grown hgc.out hbdb.size (fun k hk => by injection hk with hk; omega)
       have hrsc := (hgc.out.block w9.heap.size ((Array.getElem?_eq_some_iff.1 hrb.out).1) (by simp)).trans hrb.out
       have HR := Lib.hid ((HIq.out.below hbdc).mono (Nat.zero_le _))
       have HI := Lib.hid (HI.out.below hbdc)
       have HB10 : Hid (Bx u0 [(w9.heap.size + 1, .cells #[.slice R1 m.ph.length r1, .slice R2 m.fl.length r2, .slice R3 m.lv.length r3, .slice R4 m.en.length r4] 32 (0, 0)), (w9.heap.size, .cells #[.string ta, .string tb, .int .i64 ts] 47 (0, 0)), (gq, .cells #[.int .i64 4, .int .i64 0, .int .i64 0, .int .i64 0, .int .i64 1] 41 (0, 0)), (gm, .cells #[.slice G1 m.ph.length f1, .slice G2 m.fl.length f2, .slice G3 m.lv.length f3, .slice G4 m.en.length f4] 32 (0, 0)), (gs, .cells #[.string sa, .string sb, .int .i64 ss] 47 (0, 0)), (u0.heap.size, .cells #[.int .i64 bf, .int .i64 bd, .int .i64 br, .int .i64 bp, .float .f64 be1, .float .f64 be2, .float .f64 be3, .slice A ncs cap] 26 (0, 0))] w10) := Lib.hid ⟨HB9.out.below.trans (hbdc.mono HB9.out.below.size), fun q hq => by rcases List.mem_cons.1 hq with rfl | hq; exact hrc.out; rcases List.mem_cons.1 hq with rfl | hq; exact hrsc; exact (HB9.out.next hbdc).rows q hq⟩
       clear hrb hgb hbdb hrmb hrc hgc hbdc hrsc HIq HB9
       generalize w9.heap.size + 1 = go at *
       generalize w9.heap.size = gt at *
       have c1_0 : w10.cell? ⟨gt, 0, none⟩ = some (.string ta) := cell_of_row _ _ _ _ _ (0, 0) HB10.out.r1
       have c1_1 : w10.cell? ⟨gt, 1, none⟩ = some (.string tb) := cell_of_row _ _ _ _ _ (0, 0) HB10.out.r1
       have c1_2 : w10.cell? ⟨gt, 2, none⟩ = some (.int .i64 ts) := cell_of_row _ _ _ _ _ (0, 0) HB10.out.r1
       have c5_0 : w10.cell? ⟨u0.heap.size, 0, none⟩ = some (.int .i64 bf) := cell_of_row _ _ _ _ _ (0, 0) HB10.out.r5
       have c5_1 : w10.cell? ⟨u0.heap.size, 1, none⟩ = some (.int .i64 bd) := cell_of_row _ _ _ _ _ (0, 0) HB10.out.r5
       have c5_2 : w10.cell? ⟨u0.heap.size, 2, none⟩ = some (.int .i64 br) := cell_of_row _ _ _ _ _ (0, 0) HB10.out.r5
       have c5_3 : w10.cell? ⟨u0.heap.size, 3, none⟩ = some (.int .i64 bp) := cell_of_row _ _ _ _ _ (0, 0) HB10.out.r5
       have c5_4 : w10.cell? ⟨u0.heap.size, 4, none⟩ = some (.float .f64 be1) := cell_of_row _ _ _ _ _ (0, 0) HB10.out.r5
       have c5_5 : w10.cell? ⟨u0.heap.size, 5, none⟩ = some (.float .f64 be2) := cell_of_row _ _ _ _ _ (0, 0) HB10.out.r5
       have c5_6 : w10.cell? ⟨u0.heap.size, 6, none⟩ = some (.float .f64 be3) := cell_of_row _ _ _ _ _ (0, 0) HB10.out.r5
       have c5_7 : w10.cell? ⟨u0.heap.size, 7, none⟩ = some (.slice A ncs cap) := cell_of_row _ _ _ _ _ (0, 0) HB10.out.r5
       go_wp2_with fail
       refine (FY.out A cap ⟨ta, tb, ts⟩ m _ (HCX.out _ HB10.out.below) HCUT.out).mono ?_
       rintro e w11 ⟨pv, fv, lv, ev, rfl, hI0, hb11⟩
       have HI := Lib.hid (HI.out.below hb11)
       have HR := Lib.hid (HR.out.below hb11)
       have HB11 := Lib.hid (HB10.out.next hb11)
       clear c1_0 c1_1 c1_2 c5_0 c5_1 c5_2 c5_3 c5_4 c5_5 c5_6 c5_7 hb11 HB10
       have hI := hI0.mono (Nat.zero_le _)
       clear hI0
       obtain ⟨P1, p1, rfl⟩ := own_slice hI.p
       obtain ⟨P2, p2, rfl⟩ := own_slice hI.f
       obtain ⟨P3, p3, rfl⟩ := own_slice hI.l
       obtain ⟨P4, p4, rfl⟩ := own_slice hI.e
       have HIq := Lib.hid hI
       clear hI
       have ld0 : go < w11.heap.size := (Array.getElem?_eq_some_iff.1 HB11.out.r0).1
       have ld1 : gt < w11.heap.size := (Array.getElem?_eq_some_iff.1 HB11.out.r1).1
       have ld2 : gq < w11.heap.size := (Array.getElem?_eq_some_iff.1 HB11.out.r2).1
       have ld3 : gm < w11.heap.size := (Array.getElem?_eq_some_iff.1 HB11.out.r3).1
       have ld4 : gs < w11.heap.size := (Array.getElem?_eq_some_iff.1 HB11.out.r4).1
       have ld5 : u0.heap.size < w11.heap.size := (Array.getElem?_eq_some_iff.1 HB11.out.r5).1
       go_wp2_with (with_reducible show wpList _ _ _ (Oper.mk _ (.store 32 _ _) _ _ _ _ :: _) _ _; refine Hid.out ?_)
       refine Lib.hid ?_
       refine wpList_put rfl 32 _ _ rfl w11.heap.size #[.slice P1 m.ph.length p1, .slice P2 m.fl.length p2, .slice P3 m.lv.length p3, .slice P4 m.en.length p4] _ 32 rfl rfl (heap_alloc_new w11 _) (by kernel_rfl) rfl (by kernel_rfl) ?_
       intro w12 hr12 hg12
       have hbd12 : Below w11.heap.size w11 w12 := ((Below.refl w11.heap.size w11).alloc (Nat.le_refl _) _).grown hg12.out (by simp) (fun k hk => by injection hk with hk; omega)
       have lw12 : u0.heap.size ≤ w11.heap.size := HB11.out.below.size
       have HP := Lib.hid (HIq.out.below hbd12)
       have HI := Lib.hid (HI.out.below hbd12)
       have HR := Lib.hid (HR.out.below hbd12)
       have HB12 := Lib.hid (HB11.out.make hr12.out hbd12)
       clear hr12 hg12 hbd12 HB11 HIq
       generalize w11.heap.size = gp at *
       have c0_0 : w12.cell? ⟨gp, 0, none⟩ = some (.slice P1 m.ph.length p1) := cell_of_row _ _ _ _ _ (0, 0) HB12.out.r0
       have c0_1 : w12.cell? ⟨gp, 1, none⟩ = some (.slice P2 m.fl.length p2) := cell_of_row _ _ _ _ _ (0, 0) HB12.out.r0
       have c0_2 : w12.cell? ⟨gp, 2, none⟩ = some (.slice P3 m.lv.length p3) := cell_of_row _ _ _ _ _ (0, 0) HB12.out.r0
       have c0_3 : w12.cell? ⟨gp, 3, none⟩ = some (.slice P4 m.en.length p4) := cell_of_row _ _ _ _ _ (0, 0) HB12.out.r0
       have c4_0 : w12.cell? ⟨gm, 0, none⟩ = some (.slice G1 m.ph.length f1) := cell_of_row _ _ _ _ _ (0, 0) HB12.out.r4
       have c4_1 : w12.cell? ⟨gm, 1, none⟩ = some (.slice G2 m.fl.length f2) := cell_of_row _ _ _ _ _ (0, 0) HB12.out.r4
       have c4_2 : w12.cell? ⟨gm, 2, none⟩ = some (.slice G3 m.lv.length f3) := cell_of_row _ _ _ _ _ (0, 0) HB12.out.r4
       have c4_3 : w12.cell? ⟨gm, 3, none⟩ = some (.slice G4 m.en.length f4) := cell_of_row _ _ _ _ _ (0, 0) HB12.out.r4
       go_wp2_with fail
       refine (FE.out _ _ _ _ _ _ _ _ _ _ _ HCUT.out HP.out.view HI.out.view).mono ?_
       rintro e w13 ⟨rfl, hb13⟩
       have HI := Lib.hid (HI.out.below hb13)
       have HB13 := Lib.hid (HB12.out.next hb13)
       clear c0_0 c0_1 c0_2 c0_3 c4_0 c4_1 c4_2 c4_3 hb13 HB12
       go_wp2_with fail
       go_roundw
       case rel => exact ⟨k + 1, by omega, by go_num, HB13.out.less (by simp only [List.mem_cons, List.not_mem_nil, or_false]; rintro p (rfl | rfl | rfl | rfl) <;> simp), HI.out⟩
       case measure => simp [intOf]; omega
      ·have FA1 := Lib.hid (fun pv fv lv ev wx hc h => FAX.out pv fv lv ev (k : Int) wx hc ⟨by omega, by omega⟩ h)
       rw [hR] at FA1
       obtain ⟨ta, tb, ts⟩ := s'
       have HCUT := Lib.hid (HCU.out _ _ hjrn)
       clear hjrn hR
       have hb1 : decide ((k : Int) < need) = false := decide_eq_false (by omega)
       have hb2 : decide (need ≤ (k : Int)) = true := decide_eq_true hge
       have hkd : IntKind.i64.wrap ((k : Int) - need) = (k : Int) - need := IntWalk.i64_in _ (by omega)
       have c0_0 : wr.cell? ⟨gq, 0, none⟩ = some (.int .i64 4) := cell_of_row _ _ _ _ _ (0, 0) HB8.out.r0
       have c0_1 : wr.cell? ⟨gq, 1, none⟩ = some (.int .i64 0) := cell_of_row _ _ _ _ _ (0, 0) HB8.out.r0
       have c0_2 : wr.cell? ⟨gq, 2, none⟩ = some (.int .i64 0) := cell_of_row _ _ _ _ _ (0, 0) HB8.out.r0
       have c0_3 : wr.cell? ⟨gq, 3, none⟩ = some (.int .i64 0) := cell_of_row _ _ _ _ _ (0, 0) HB8.out.r0
       have c0_4 : wr.cell? ⟨gq, 4, none⟩ = some (.int .i64 1) := cell_of_row _ _ _ _ _ (0, 0) HB8.out.r0
       have c1_0 : wr.cell? ⟨gm, 0, none⟩ = some (.slice G1 m.ph.length f1) := cell_of_row _ _ _ _ _ (0, 0) HB8.out.r1
       have c1_1 : wr.cell? ⟨gm, 1, none⟩ = some (.slice G2 m.fl.length f2) := cell_of_row _ _ _ _ _ (0, 0) HB8.out.r1
       have c1_2 : wr.cell? ⟨gm, 2, none⟩ = some (.slice G3 m.lv.length f3) := cell_of_row _ _ _ _ _ (0, 0) HB8.out.r1
       have c1_3 : wr.cell? ⟨gm, 3, none⟩ = some (.slice G4 m.en.length f4) := cell_of_row _ _ _ _ _ (0, 0) HB8.out.r1
       have c2_0 : wr.cell? ⟨gs, 0, none⟩ = some (.string sa) := cell_of_row _ _ _ _ _ (0, 0) HB8.out.r2
       have c2_1 : wr.cell? ⟨gs, 1, none⟩ = some (.string sb) := cell_of_row _ _ _ _ _ (0, 0) HB8.out.r2
       have c2_2 : wr.cell? ⟨gs, 2, none⟩ = some (.int .i64 ss) := cell_of_row _ _ _ _ _ (0, 0) HB8.out.r2
       have c3_0 : wr.cell? ⟨u0.heap.size, 0, none⟩ = some (.int .i64 bf) := cell_of_row _ _ _ _ _ (0, 0) HB8.out.r3
       have c3_1 : wr.cell? ⟨u0.heap.size, 1, none⟩ = some (.int .i64 bd) := cell_of_row _ _ _ _ _ (0, 0) HB8.out.r3
       have c3_2 : wr.cell? ⟨u0.heap.size, 2, none⟩ = some (.int .i64 br) := cell_of_row _ _ _ _ _ (0, 0) HB8.out.r3
       have c3_3 : wr.cell? ⟨u0.heap.size, 3, none⟩ = some (.int .i64 bp) := cell_of_row _ _ _ _ _ (0, 0) HB8.out.r3
       have c3_4 : wr.cell? ⟨u0.heap.size, 4, none⟩ = some (.float .f64 be1) := cell_of_row _ _ _ _ _ (0, 0) HB8.out.r3
       have c3_5 : wr.cell? ⟨u0.heap.size, 5, none⟩ = some (.float .f64 be2) := cell_of_row _ _ _ _ _ (0, 0) HB8.out.r3
       have c3_6 : wr.cell? ⟨u0.heap.size, 6, none⟩ = some (.float .f64 be3) := cell_of_row _ _ _ _ _ (0, 0) HB8.out.r3
       have c3_7 : wr.cell? ⟨u0.heap.size, 7, none⟩ = some (.slice A ncs cap) := cell_of_row _ _ _ _ _ (0, 0) HB8.out.r3
       go_wp2_with fail
       refine (FA1.out _ _ _ _ _ (HCX.out _ HB8.out.below) HI.out.view).mono ?_
       rintro e w9 ⟨pv, fv, lv, ev, rfl, hI0, hb9⟩
       have HI := Lib.hid (HI.out.below hb9)
       have HB9 := Lib.hid (HB8.out.next hb9)
       clear c0_0 c0_1 c0_2 c0_3 c0_4 c1_0 c1_1 c1_2 c1_3 c2_0 c2_1 c2_2 c3_0 c3_1 c3_2 c3_3 c3_4 c3_5 c3_6 c3_7 hb9 HB8
       obtain ⟨R1, r1, rfl⟩ := own_slice hI0.p
       obtain ⟨R2, r2, rfl⟩ := own_slice hI0.f
       obtain ⟨R3, r3, rfl⟩ := own_slice hI0.l
       obtain ⟨R4, r4, rfl⟩ := own_slice hI0.e
       have HIq := Lib.hid hI0
       clear hI0
       have ld0 : gq < w9.heap.size := (Array.getElem?_eq_some_iff.1 HB9.out.r0).1
       have ld1 : gm < w9.heap.size := (Array.getElem?_eq_some_iff.1 HB9.out.r1).1
       have ld2 : gs < w9.heap.size := (Array.getElem?_eq_some_iff.1 HB9.out.r2).1
       have ld3 : u0.heap.size < w9.heap.size := (Array.getElem?_eq_some_iff.1 HB9.out.r3).1
       have lwq : u0.heap.size ≤ w9.heap.size := HB9.out.below.size
       go_wp2_with (with_reducible show wpList _ _ _ (Oper.mk _ (.store 47 _ _) _ _ _ _ :: _) _ _; refine Hid.out ?_)
       refine Lib.hid ?_
       refine wpList_put rfl 47 _ _ rfl w9.heap.size #[.string ta, .string tb, .int .i64 ts] _ 47 rfl rfl (heap_alloc2_old w9 _ _) (by kernel_rfl) rfl (by kernel_rfl) ?_
       intro wb hrb hgb
       have hbdb : Below w9.heap.size w9 wb := (((Below.refl w9.heap.size w9).alloc (Nat.le_refl _) _).alloc (by simp) _).grown hgb.out (by simp; omega) (fun k hk => by injection hk with hk; omega)
       have hrmb := (hgb.out.block (w9.heap.size + 1) (by simp) (by simp)).trans (heap_alloc2_new w9 _ _)
       go_wp2_with (with_reducible show wpList _ _ _ (Oper.mk _ (.store 32 _ _) _ _ _ _ :: _) _ _; refine Hid.out ?_)
       refine Lib.hid ?_
       refine wpList_put rfl 32 _ _ rfl (w9.heap.size + 1) #[.slice R1 m2.ph.length r1, .slice R2 m2.fl.length r2, .slice R3 m2.lv.length r3, .slice R4 m2.en.length r4] _ 32 rfl rfl hrmb (by kernel_rfl) rfl (by kernel_rfl) ?_
       intro w10 hrc hgc
       have hbdc : Below w9.heap.size w9 w10 := hbdb.grown hgc.out hbdb.size (fun k hk => by injection hk with hk; omega)
       have hrsc := (hgc.out.block w9.heap.size ((Array.getElem?_eq_some_iff.1 hrb.out).1) (by simp)).trans hrb.out
       have HR := Lib.hid ((HIq.out.below hbdc).mono (Nat.zero_le _))
       have HI := Lib.hid (HI.out.below hbdc)
       have HB10 : Hid (Bx u0 [(w9.heap.size + 1, .cells #[.slice R1 m2.ph.length r1, .slice R2 m2.fl.length r2, .slice R3 m2.lv.length r3, .slice R4 m2.en.length r4] 32 (0, 0)), (w9.heap.size, .cells #[.string ta, .string tb, .int .i64 ts] 47 (0, 0)), (gq, .cells #[.int .i64 4, .int .i64 0, .int .i64 0, .int .i64 0, .int .i64 1] 41 (0, 0)), (gm, .cells #[.slice G1 m.ph.length f1, .slice G2 m.fl.length f2, .slice G3 m.lv.length f3, .slice G4 m.en.length f4] 32 (0, 0)), (gs, .cells #[.string sa, .string sb, .int .i64 ss] 47 (0, 0)), (u0.heap.size, .cells #[.int .i64 bf, .int .i64 bd, .int .i64 br, .int .i64 bp, .float .f64 be1, .float .f64 be2, .float .f64 be3, .slice A ncs cap] 26 (0, 0))] w10) := Lib.hid ⟨HB9.out.below.trans (hbdc.mono HB9.out.below.size), fun q hq => by rcases List.mem_cons.1 hq with rfl | hq; exact hrc.out; rcases List.mem_cons.1 hq with rfl | hq; exact hrsc; exact (HB9.out.next hbdc).rows q hq⟩
       clear hrb hgb hbdb hrmb hrc hgc hbdc hrsc HIq HB9
       generalize w9.heap.size + 1 = go at *
       generalize w9.heap.size = gt at *
       have c1_0 : w10.cell? ⟨gt, 0, none⟩ = some (.string ta) := cell_of_row _ _ _ _ _ (0, 0) HB10.out.r1
       have c1_1 : w10.cell? ⟨gt, 1, none⟩ = some (.string tb) := cell_of_row _ _ _ _ _ (0, 0) HB10.out.r1
       have c1_2 : w10.cell? ⟨gt, 2, none⟩ = some (.int .i64 ts) := cell_of_row _ _ _ _ _ (0, 0) HB10.out.r1
       have c5_0 : w10.cell? ⟨u0.heap.size, 0, none⟩ = some (.int .i64 bf) := cell_of_row _ _ _ _ _ (0, 0) HB10.out.r5
       have c5_1 : w10.cell? ⟨u0.heap.size, 1, none⟩ = some (.int .i64 bd) := cell_of_row _ _ _ _ _ (0, 0) HB10.out.r5
       have c5_2 : w10.cell? ⟨u0.heap.size, 2, none⟩ = some (.int .i64 br) := cell_of_row _ _ _ _ _ (0, 0) HB10.out.r5
       have c5_3 : w10.cell? ⟨u0.heap.size, 3, none⟩ = some (.int .i64 bp) := cell_of_row _ _ _ _ _ (0, 0) HB10.out.r5
       have c5_4 : w10.cell? ⟨u0.heap.size, 4, none⟩ = some (.float .f64 be1) := cell_of_row _ _ _ _ _ (0, 0) HB10.out.r5
       have c5_5 : w10.cell? ⟨u0.heap.size, 5, none⟩ = some (.float .f64 be2) := cell_of_row _ _ _ _ _ (0, 0) HB10.out.r5
       have c5_6 : w10.cell? ⟨u0.heap.size, 6, none⟩ = some (.float .f64 be3) := cell_of_row _ _ _ _ _ (0, 0) HB10.out.r5
       have c5_7 : w10.cell? ⟨u0.heap.size, 7, none⟩ = some (.slice A ncs cap) := cell_of_row _ _ _ _ _ (0, 0) HB10.out.r5
       go_wp2_with fail
       refine (FY.out A cap ⟨ta, tb, ts⟩ m2 _ (HCX.out _ HB10.out.below) HCUT.out).mono ?_
       rintro e w11 ⟨pv, fv, lv, ev, rfl, hI0, hb11⟩
       have HI := Lib.hid (HI.out.below hb11)
       have HR := Lib.hid (HR.out.below hb11)
       have HB11 := Lib.hid (HB10.out.next hb11)
       clear c1_0 c1_1 c1_2 c5_0 c5_1 c5_2 c5_3 c5_4 c5_5 c5_6 c5_7 hb11 HB10
       have hI := hI0.mono (Nat.zero_le _)
       clear hI0
       obtain ⟨P1, p1, rfl⟩ := own_slice hI.p
       obtain ⟨P2, p2, rfl⟩ := own_slice hI.f
       obtain ⟨P3, p3, rfl⟩ := own_slice hI.l
       obtain ⟨P4, p4, rfl⟩ := own_slice hI.e
       have HIq := Lib.hid hI
       clear hI
       have ld0 : go < w11.heap.size := (Array.getElem?_eq_some_iff.1 HB11.out.r0).1
       have ld1 : gt < w11.heap.size := (Array.getElem?_eq_some_iff.1 HB11.out.r1).1
       have ld2 : gq < w11.heap.size := (Array.getElem?_eq_some_iff.1 HB11.out.r2).1
       have ld3 : gm < w11.heap.size := (Array.getElem?_eq_some_iff.1 HB11.out.r3).1
       have ld4 : gs < w11.heap.size := (Array.getElem?_eq_some_iff.1 HB11.out.r4).1
       have ld5 : u0.heap.size < w11.heap.size := (Array.getElem?_eq_some_iff.1 HB11.out.r5).1
       go_wp2_with (with_reducible show wpList _ _ _ (Oper.mk _ (.store 32 _ _) _ _ _ _ :: _) _ _; refine Hid.out ?_)
       refine Lib.hid ?_
       refine wpList_put rfl 32 _ _ rfl w11.heap.size #[.slice P1 m2.ph.length p1, .slice P2 m2.fl.length p2, .slice P3 m2.lv.length p3, .slice P4 m2.en.length p4] _ 32 rfl rfl (heap_alloc_new w11 _) (by kernel_rfl) rfl (by kernel_rfl) ?_
       intro w12 hr12 hg12
       have hbd12 : Below w11.heap.size w11 w12 := ((Below.refl w11.heap.size w11).alloc (Nat.le_refl _) _).grown hg12.out (by simp) (fun k hk => by injection hk with hk; omega)
       have lw12 : u0.heap.size ≤ w11.heap.size := HB11.out.below.size
       have HP := Lib.hid (HIq.out.below hbd12)
       have HI := Lib.hid (HI.out.below hbd12)
       have HR := Lib.hid (HR.out.below hbd12)
       have HB12 := Lib.hid (HB11.out.make hr12.out hbd12)
       clear hr12 hg12 hbd12 HB11 HIq
       generalize w11.heap.size = gp at *
       obtain ⟨hs1, hs2, hs3⟩ := HUS.out
       have hpl : 0 < m2.ph.length := by omega
       obtain ⟨pf, rfl, -, hpf⟩ := own_some HR.out.p hpl
       have hpc := phase_cell HR.out.p hs3
       have HPC := Lib.hid (fun wx (h : Below w12.heap.size w12 wx) => (h.cell (p := ⟨pf, 0, none⟩) hpf).trans hpc)
       have hpn : ¬ (m2.ph.length = 0) := by omega
       have hpi : ¬ ((m2.ph.length : Int) = 0) := by omega
       clear hs1 hs2 hs3 hpc hpf
       have c0_0 : w12.cell? ⟨gp, 0, none⟩ = some (.slice P1 m2.ph.length p1) := cell_of_row _ _ _ _ _ (0, 0) HB12.out.r0
       have c0_1 : w12.cell? ⟨gp, 1, none⟩ = some (.slice P2 m2.fl.length p2) := cell_of_row _ _ _ _ _ (0, 0) HB12.out.r0
       have c0_2 : w12.cell? ⟨gp, 2, none⟩ = some (.slice P3 m2.lv.length p3) := cell_of_row _ _ _ _ _ (0, 0) HB12.out.r0
       have c0_3 : w12.cell? ⟨gp, 3, none⟩ = some (.slice P4 m2.en.length p4) := cell_of_row _ _ _ _ _ (0, 0) HB12.out.r0
       have c1_0 : w12.cell? ⟨go, 0, none⟩ = some (.slice (some ⟨pf, 0, none⟩) m2.ph.length r1) := cell_of_row _ _ _ _ _ (0, 0) HB12.out.r1
       have c1_1 : w12.cell? ⟨go, 1, none⟩ = some (.slice R2 m2.fl.length r2) := cell_of_row _ _ _ _ _ (0, 0) HB12.out.r1
       have c1_2 : w12.cell? ⟨go, 2, none⟩ = some (.slice R3 m2.lv.length r3) := cell_of_row _ _ _ _ _ (0, 0) HB12.out.r1
       have c1_3 : w12.cell? ⟨go, 3, none⟩ = some (.slice R4 m2.en.length r4) := cell_of_row _ _ _ _ _ (0, 0) HB12.out.r1
       go_wp2_with fail
       refine (FE.out _ _ _ _ _ _ _ _ _ _ _ HCUT.out HP.out.view HR.out.view).mono ?_
       rintro e w13 ⟨rfl, hb13⟩
       have HI := Lib.hid (HI.out.below hb13)
       have hpc := HPC.out _ hb13
       have HB13 := Lib.hid (HB12.out.next hb13)
       clear c0_0 c0_1 c0_2 c0_3 c1_0 c1_1 c1_2 c1_3 hb13 HB12
       have c1_0 : w13.cell? ⟨go, 0, none⟩ = some (.slice (some ⟨pf, 0, none⟩) m2.ph.length r1) := cell_of_row _ _ _ _ _ (0, 0) HB13.out.r1
       have c1_1 : w13.cell? ⟨go, 1, none⟩ = some (.slice R2 m2.fl.length r2) := cell_of_row _ _ _ _ _ (0, 0) HB13.out.r1
       have c1_2 : w13.cell? ⟨go, 2, none⟩ = some (.slice R3 m2.lv.length r3) := cell_of_row _ _ _ _ _ (0, 0) HB13.out.r1
       have c1_3 : w13.cell? ⟨go, 3, none⟩ = some (.slice R4 m2.en.length r4) := cell_of_row _ _ _ _ _ (0, 0) HB13.out.r1
       go_wp2_with fail
       go_roundw
       case rel => exact ⟨k + 1, by omega, by go_num, HB13.out.less (by simp only [List.mem_cons, List.not_mem_nil, or_false]; rintro p (rfl | rfl | rfl | rfl) <;> simp), HI.out⟩
       case measure => simp [intOf]; omega
     ·have hkB : decide ((k : Int) ≤ need + 1) = false := decide_eq_false hkn
      have hkw : IntKind.i64.wrap (need + 1) = need + 1 := IntWalk.i64_in _ (by omega)
      go_wp2_with fail
      refine (FN.out _).mono ?_
      rintro e w41 ⟨rfl, hb41⟩
      have HB41 := Lib.hid (HB8.out.next hb41)
      clear hb41 HB8
      go_wp2_with fail
      go_ret
      exact ⟨rfl, HBW.out.trans (HB41.out.below.mono HBW.out.size)⟩

theorem lawLogUnits_walk (x : Int) (v : Value) (ns : List Nat) (w : World) (hx : (Lit.int .u8 x).wf = true) (hv : VV w v (u8s ns)) (hns : ∀ z ∈ ns, z < 256) (hnl : ns.length ≤ maxLen) :
    Calls Try.prog 6 #[.int .u8 x, v] w fun e w' => e = .returned (.bool true) ∧ Below w.heap.size w w' := by
  obtain ⟨n, rfl, hn⟩ := u8_nat hx
  exact logUnits_any n ns v w hn hns hnl hv
set_option maxRecDepth 100000 in
theorem lawLogUnits_lifted (os : Os) (started : os.Started) (H : Type) (enc : TypeId × Value → H) :
    ReturnsInHanded {} Try.checked os 6 .any (Rows.logUnitsSpec.pre6 enc Try.prog Try.f6 Rows.logUnitsRow.domain false) (Rows.logUnitsSpec.post enc Try.prog Try.f6 false true false false) := by
  refine returnsInHanded_of_change (C := Try.checked) own started (by kernel_rfl) Try.func6
    (ChangeSpec.witness6 (enc := enc) (C := Try.checked) false ⟨#[], #[.int .u8 0, .slice none 0 0], []⟩ 8 (by kernel_rfl) (by kernel_rfl) (by kernel_rfl) (by kernel_rfl)) ?_
  intro W base args ds gs before hval0 hW hcnd _
  have hval : ∀ (j : Nat) t v, Try.f6.params[j]? = some t → args[j]? = some v → Value.okWide Try.prog W .any base t v := hval0
  have hW' := hW
  obtain ⟨p, q, hA0, hV, rfl, hfz, hnd⟩ := hW
  have hA : DataW.TrodAll enc Try.prog W 0 (fun _ => true) true Try.f6.params.toList args.toList ds p := hA0
  rw [Try.params6] at hA hval
  obtain ⟨v0, vs0, d0, ds0, p0, q0, hargs, rfl, rfl, h0, r0⟩ := trodAll_cons hA
  obtain ⟨v1, vs1, d1, ds1, p1, q1, rfl, rfl, rfl, h1, r1⟩ := trodAll_cons r0
  obtain ⟨rfl, rfl, rfl⟩ := trodAll_nil r1
  obtain rfl : args = #[v0, v1] := by cases args; simp_all
  obtain ⟨rfl, rfl⟩ := trodVars_none hV
  obtain ⟨x0, rfl, rfl, rfl, g0⟩ := open_int Try.underlying5 (hval 0 5 v0 rfl rfl) h0
  have k1 := h1
  have lt1 : ∀ x ∈ p1, x.block < W.heap.size := by obtain ⟨m, hm⟩ := k1; exact DataW.trod_lt m _ _ _ hm
  obtain ⟨a1, l1, c1, rfl⟩ := okWide_slice Try.underlying22 (hval 1 22 v1 rfl rfl)
  obtain ⟨fuel1, hf1⟩ := h1
  obtain ⟨x1, g1, n1, m1⟩ := open_u8s hf1
  clear hA0 hval0
  refine (lawLogUnits_walk x0 _ x1 W g0 g1 n1 m1).mono fun e W' ⟨he, bel⟩ => ?_
  subst he
  exact ⟨_, rfl, _, _, _, [], _, [], hW', trodAll_mk1 (shut_bool Try.underlying4 _), (trodAll_cons_mk (shut_int Try.underlying5 g0) (trodAll_cons_mk (Below.trod laidOut (by kernel_rfl) (of_decide_eq_true (by kernel_rfl)) k1 bel lt1) trodAll_mk0)), rfl, bel.frame _, fun h => by cases h⟩

theorem lawLogUnits_over : Rows.logUnitsRow.holds Try.pinned (OpenSpec.ofChange Rows.logUnitsSpec) :=
  OpenClaim.holds_of_wide 6 Try.f6 rfl rfl rfl rfl rfl rfl rfl ⟨rfl, rfl, rfl, rfl, rfl⟩ rfl rfl rfl rfl rfl (by kernel_rfl) Try.func6 (by kernel_rfl)
    (of_decide_eq_true (by kernel_rfl)) (by unfold Func.isWrapper; first | (rw [if_pos (by decide +kernel)]; kernel_rfl) | (rw [if_neg (by decide +kernel)]; exact ⟨rfl, rfl⟩))
    (fun os started H enc _ => lawLogUnits_lifted os started H enc)

theorem logUnits_holds : Rows.LogUnitsSaid := lawLogUnits_over
#print axioms logUnits_holds
end Go.Proofs.Ytifbkoaggjikpaa
