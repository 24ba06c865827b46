/- The law LogKeeps: a journal that is only written by Append is replayed to its image; only registrations are refused, and these only when there is no room for another call. No condition. -/
import Derived.Test.YtmonbldmgmmnbaaLgKp
import Derived.Deep.CutRange
import Derived.Deep.CutBlock
namespace Go.Proofs.Ytmonbldmgmmnbaa
open Go.RowKit GhostV Bag Lg Img Go.ChangeShapes Go.WideShapes Go.ChangeAt Go.Deep

open List (setIfInBounds_toArray set_cons_succ set_cons_zero)

set_option maxRecDepth 100000 in
set_option maxHeartbeats 16000000 in
theorem logKeeps_any(n room : Nat) (ns : List Nat) (vl : Value) (w : World) (hn : n < 256) (hro : room < 256) (hns : ∀ z ∈ ns, z < 256) (hnl : ns.length ≤ maxLen) (hv : VV w vl (u8s ns)) :
  Calls Try.prog 4 #[.int .u8 n, .int .u8 room, vl] w fun e w' => e = .returned (.bool true) ∧ Below w.heap.size w w' := by
 obtain ⟨F, hF⟩ : ∃ F, F = 2 + n % 7 := ⟨_, rfl⟩
 obtain ⟨C, hC⟩ : ∃ C, C = 1 + n / 7 % 3 := ⟨_, rfl⟩
 have hF1 : 2 ≤ F := by omega
 have hF2 : F ≤ 32 := by omega
 have hC1 : 1 ≤ C := by omega
 have hC2 : C ≤ 3 := by omega
 have FB := Lib.hid (fun wx => building10_any n room wx hn hro)
 rw [← hF, ← hC] at FB
 clear hF hC hn
 have hok : ∀ r ∈ Rc.recL F C ns (min (ns.length / 2) 100), Rc.okB (bldR (F : Int) C room) r = true := fun r hr => okB_bldR hF1 hF2 hC1 (by omega) (by omega) (Rc.recL_ok hF1 hF2 hC1 (by omega) hns _ r hr)
 have hvb : validE (bldR (F : Int) C room) = 0 := bldR_valid F C room (by omega) (by omega) hC1 (by omega) (by omega)
 have hbl : (bldR (F : Int) C room).cars.length = C := by simp [bldR, sampleD, sampleCars_length]
 have hrm : (bldR (F : Int) C room).room = 18 * (C : Int) + 24 + room := rfl
 have FR := Lib.hid (fun A cap wx (hV : VV wx vl (u8s ns)) => records_any (bldR (F : Int) C room) A cap F C rfl hbl hF1 hF2 hC1 (by omega) ns hns hnl vl 100 (by decide) wx hV)
 have hj0 := jrn_new hvb (by rw [hbl, hrm]; omega) (by rw [hrm]; omega)
 have hroom : (bldR (F : Int) C room).room ≤ 1000 := by rw [hrm]; omega
 have hXl : (Rc.recL F C ns (min (ns.length / 2) 100)).length ≤ 100 := by rw [Rc.recL_len]; omega
 generalize Rc.recL F C ns (min (ns.length / 2) 100) = X at *
 generalize bldR (F : Int) C room = b at *
 clear hns hnl hF1 hF2 hrm
 have FI := Lib.hid (fun A cap wx (hc : CarsAt wx wx.heap.size A b.cars) => initGood_any b A cap wx hc hvb)
 have HJ0 := Lib.hid hj0
 have FA := Lib.hid (fun A cap s pv fv lv ev m r wx (hc : CarsAt wx wx.heap.size A b.cars) (hj : Jrn b s m) (h : ImV wx pv fv lv ev m) => by
  obtain ⟨a1, a2, a3, a4, -⟩ := jrn_small hj hroom
  exact append_any b A cap s pv fv lv ev m r 100000 wx (by omega) hc h ⟨by omega, by omega, by omega, by omega⟩ (by omega) (by constructor <;> decide))
 have HST := Lib.hid (fun s m r (hj : Jrn b s m) (hr : Rc.okB b r = true) => append_step hj hr hroom (bud := 100000) (by decide))
 have HFU := Lib.hid (fun s m r (hj : Jrn b s m) (h : fullB b m r = true) => full_of hj.good h)
 have HSM := Lib.hid (fun s m (hj : Jrn b s m) => jrn_small hj hroom)
 have FF := Lib.hid (fun pv fv lv ev m f d wx (h : ImV wx pv fv lv ev m) (he : m.en.length ≤ 100) => refFind_any pv fv lv ev m f d wx h (by omega))
 have FP := Lib.hid (fun A cap pv fv lv ev s m r wx (hc : CarsAt wx wx.heap.size A b.cars) (hj : Jrn b s m) (h : ImV wx pv fv lv ev m) (hr : Rc.okB b r = true) => refApplyGood_any b A cap pv fv lv ev m r wx hc h (by have := (jrn_small hj hroom).2.2.2.1; omega) hj.good hr)
 have FY := Lib.hid (fun A cap s m wx (hc : CarsAt wx wx.heap.size A b.cars) (hj : Jrn b s m) => by
  have := replay_any b A cap s wx hvb hc (jrn_small hj hroom).2.2.2.2.2.2
  exact this.mono fun e w' ⟨m2, pv, fv, lv, ev, h1, h2, h3, h4⟩ => (by
   obtain rfl := rpl_one h2 hj.cut.rpl
   exact ⟨pv, fv, lv, ev, h1, h3, h4⟩ : ∃ pv fv lv ev, e = Ending.returned (.agg #[pv, fv, lv, ev]) ∧ IOwn w' wx.heap.size pv fv lv ev m ∧ Below wx.heap.size wx w'))
 have FE := Lib.hid (fun pv fv lv ev pv' fv' lv' ev' s m wx (hj : Jrn b s m) (ha : ImV wx pv fv lv ev m) (hb : ImV wx pv' fv' lv' ev' m) => by
  obtain ⟨a1, a2, a3, a4, -⟩ := jrn_small hj hroom
  have := refSame10_any m m pv fv lv ev pv' fv' lv' ev' wx ha hb (by omega) (by omega) (by omega) (by omega) (by omega) (by omega) (by omega) (by omega)
  rw [show imEq m m = true from (imEq_iff _ _).2 rfl] at this
  exact this)
 have FN := Lib.hid (fun wx => sane10_any wx)
 have HOK := Lib.hid (fun k (hk : k < X.length) => hok X[k] (List.getElem_mem hk))
 have hcr : (b.cars.length : Int) ≤ 3 := by omega
 clear hok hvb hj0 hroom hbl hC1 hC2 hro
 generalize Img.init b.cars.length = i0 at *
 generalize hJB : Jrn b = JB at *
 generalize hOB : Rc.okB b = OB at *
 generalize hAB : appendF b = AB at *
 generalize hFB : fullB b = FUB at *
 clear hJB hOB hAB hFB
 obtain ⟨bf, bd, br, bp, be1, be2, be3, cs⟩ := b
 simp only [BldD.agg] at *
 generalize hncs : cs.length = ncs at *
 have HV := Lib.hid hv
 clear hv hncs
 go_enter Try.func4, Try.ntmps4
 go_wp2_with fail
 refine (FB.out _).mono ?_
 rintro e u0 ⟨hb0, A, cap, rfl, hcars⟩
 have HC := Lib.hid hcars
 have HBW := Lib.hid hb0
 clear hcars hb0
 have HB0 : Hid (Bx u0 [] u0) := Lib.hid ⟨Below.refl _ _, fun p hp => by simp at hp⟩
 have HCX := Lib.hid (fun wx (hb : Below u0.heap.size u0 wx) => show CarsAt wx wx.heap.size A cs from (HC.out.below hb).more hb.size)
 have HVX := Lib.hid (fun wx (hb : Below u0.heap.size u0 wx) => (HV.out.below HBW.out).below hb)
 clear HV HC
 go_wp2_with (with_reducible show wpList _ _ _ (Oper.mk _ (.store 26 _ _) _ _ _ _ :: _) _ _; refine Hid.out ?_)
 refine Lib.hid ?_
 refine wpList_put rfl 26 _ _ rfl u0.heap.size #[.int .i64 bf, .int .i64 bd, .int .i64 br, .int .i64 bp, .float .f64 be1, .float .f64 be2, .float .f64 be3, .slice A ncs cap] _ 26 rfl rfl (heap_alloc_new u0 _) (by kernel_rfl) rfl (by kernel_rfl) ?_
 intro w1 hr1 hg1
 have HB1 : Hid (Bx u0 [(u0.heap.size, .cells #[.int .i64 bf, .int .i64 bd, .int .i64 br, .int .i64 bp, .float .f64 be1, .float .f64 be2, .float .f64 be3, .slice A ncs cap] 26 (0, 0))] w1) := Lib.hid ((HB0.out.make (heap_alloc_new u0 (.cells #[.int .i64 0, .int .i64 0, .int .i64 0, .int .i64 0, .float .f64 0, .float .f64 0, .float .f64 0, .slice none 0 0] 26)) ((Below.refl u0.heap.size u0).alloc (Nat.le_refl _) _)).put HB0.out.below.size hg1.out hr1.out (by simp only [List.mem_cons, List.not_mem_nil, or_false]; rintro p rfl <;> simp <;> omega))
 clear hr1 hg1 HB0
 have c0_0 : w1.cell? ⟨u0.heap.size, 0, none⟩ = some (.int .i64 bf) := cell_of_row _ _ _ _ _ (0, 0) HB1.out.r0
 have c0_1 : w1.cell? ⟨u0.heap.size, 1, none⟩ = some (.int .i64 bd) := cell_of_row _ _ _ _ _ (0, 0) HB1.out.r0
 have c0_2 : w1.cell? ⟨u0.heap.size, 2, none⟩ = some (.int .i64 br) := cell_of_row _ _ _ _ _ (0, 0) HB1.out.r0
 have c0_3 : w1.cell? ⟨u0.heap.size, 3, none⟩ = some (.int .i64 bp) := cell_of_row _ _ _ _ _ (0, 0) HB1.out.r0
 have c0_4 : w1.cell? ⟨u0.heap.size, 4, none⟩ = some (.float .f64 be1) := cell_of_row _ _ _ _ _ (0, 0) HB1.out.r0
 have c0_5 : w1.cell? ⟨u0.heap.size, 5, none⟩ = some (.float .f64 be2) := cell_of_row _ _ _ _ _ (0, 0) HB1.out.r0
 have c0_6 : w1.cell? ⟨u0.heap.size, 6, none⟩ = some (.float .f64 be3) := cell_of_row _ _ _ _ _ (0, 0) HB1.out.r0
 have c0_7 : w1.cell? ⟨u0.heap.size, 7, none⟩ = some (.slice A ncs cap) := cell_of_row _ _ _ _ _ (0, 0) HB1.out.r0
 go_wp2_with fail
 refine (FI.out A cap _ (HCX.out _ HB1.out.below)).mono ?_
 rintro e w2 ⟨pv, fv, lv, ev, rfl, hI0, hb2⟩
 have HB2 := Lib.hid (HB1.out.next hb2)
 clear c0_0 c0_1 c0_2 c0_3 c0_4 c0_5 c0_6 c0_7 hb2 HB1
 obtain ⟨D1, d1, rfl⟩ := own_slice hI0.p
 obtain ⟨D2, d2, rfl⟩ := own_slice hI0.f
 obtain ⟨D3, d3, rfl⟩ := own_slice hI0.l
 obtain ⟨D4, d4, rfl⟩ := own_slice hI0.e
 have HIq := Lib.hid hI0
 clear hI0
 have hl2 : u0.heap.size < w2.heap.size := (Array.getElem?_eq_some_iff.1 HB2.out.r0).1
 go_wp2_with (with_reducible show wpList _ _ _ (Oper.mk _ (.store 47 _ _) _ _ _ _ :: _) _ _; refine Hid.out ?_)
 refine Lib.hid ?_
 refine wpList_put rfl 47 _ _ rfl w2.heap.size #[.string ⟨#[]⟩, .string ⟨#[]⟩, .int .i64 0] _ 47 rfl rfl (heap_alloc2_old w2 _ _) (by kernel_rfl) rfl (by kernel_rfl) ?_
 intro wb hrb hgb
 have hbdb : Below w2.heap.size w2 wb := (((Below.refl w2.heap.size w2).alloc (Nat.le_refl _) _).alloc (by simp) _).grown hgb.out (by simp; omega) (fun k hk => by injection hk with hk; omega)
 have hrmb := (hgb.out.block (w2.heap.size + 1) (by simp) (by simp)).trans (heap_alloc2_new w2 _ _)
 go_wp2_with (with_reducible show wpList _ _ _ (Oper.mk _ (.store 32 _ _) _ _ _ _ :: _) _ _; refine Hid.out ?_)
 refine Lib.hid ?_
 refine wpList_put rfl 32 _ _ rfl (w2.heap.size + 1) #[.slice D1 i0.ph.length d1, .slice D2 i0.fl.length d2, .slice D3 i0.lv.length d3, .slice D4 i0.en.length d4] _ 32 rfl rfl hrmb (by kernel_rfl) rfl (by kernel_rfl) ?_
 intro wc hrc hgc
 have hbdc : Below w2.heap.size w2 wc := hbdb.grown hgc.out hbdb.size (fun k hk => by injection hk with hk; omega)
 have hrsc := (hgc.out.block w2.heap.size ((Array.getElem?_eq_some_iff.1 hrb.out).1) (by simp)).trans hrb.out
 have HI2 := Lib.hid ((HIq.out.below hbdc).mono (Nat.zero_le _))
 have lwa : u0.heap.size < w2.heap.size + 1 := by omega
 have HBc : Hid (Bx u0 [(w2.heap.size + 1, .cells #[.slice D1 i0.ph.length d1, .slice D2 i0.fl.length d2, .slice D3 i0.lv.length d3, .slice D4 i0.en.length d4] 32 (0, 0)), (w2.heap.size, .cells #[.string ⟨#[]⟩, .string ⟨#[]⟩, .int .i64 0] 47 (0, 0)), (u0.heap.size, .cells #[.int .i64 bf, .int .i64 bd, .int .i64 br, .int .i64 bp, .float .f64 be1, .float .f64 be2, .float .f64 be3, .slice A ncs cap] 26 (0, 0))] wc) := Lib.hid ⟨HB2.out.below.trans (hbdc.mono HB2.out.below.size), by simp only [List.mem_cons, List.not_mem_nil, or_false]; rintro q (rfl | rfl | rfl); exact hrc.out; exact hrsc; exact (hbdc.block _ hl2).trans HB2.out.r0⟩
 have hne : w2.heap.size ≠ w2.heap.size + 1 := by omega
 generalize w2.heap.size + 1 = gm at *
 generalize w2.heap.size = gs at *
 rename u0.heap.size < gm => hgm1
 rename u0.heap.size < gs => hgs1
 clear hrb hgb hbdb hrmb hrc hgc hbdc hrsc HIq HB2
 have c2_0 : wc.cell? ⟨u0.heap.size, 0, none⟩ = some (.int .i64 bf) := cell_of_row _ _ _ _ _ (0, 0) HBc.out.r2
 have c2_1 : wc.cell? ⟨u0.heap.size, 1, none⟩ = some (.int .i64 bd) := cell_of_row _ _ _ _ _ (0, 0) HBc.out.r2
 have c2_2 : wc.cell? ⟨u0.heap.size, 2, none⟩ = some (.int .i64 br) := cell_of_row _ _ _ _ _ (0, 0) HBc.out.r2
 have c2_3 : wc.cell? ⟨u0.heap.size, 3, none⟩ = some (.int .i64 bp) := cell_of_row _ _ _ _ _ (0, 0) HBc.out.r2
 have c2_4 : wc.cell? ⟨u0.heap.size, 4, none⟩ = some (.float .f64 be1) := cell_of_row _ _ _ _ _ (0, 0) HBc.out.r2
 have c2_5 : wc.cell? ⟨u0.heap.size, 5, none⟩ = some (.float .f64 be2) := cell_of_row _ _ _ _ _ (0, 0) HBc.out.r2
 have c2_6 : wc.cell? ⟨u0.heap.size, 6, none⟩ = some (.float .f64 be3) := cell_of_row _ _ _ _ _ (0, 0) HBc.out.r2
 have c2_7 : wc.cell? ⟨u0.heap.size, 7, none⟩ = some (.slice A ncs cap) := cell_of_row _ _ _ _ _ (0, 0) HBc.out.r2
 go_wp2_with fail
 refine (FR.out A cap _ (HVX.out _ HBc.out.below)).mono ?_
 rintro e w3 ⟨u, rfl, ⟨xA, xc, rfl, hx⟩, hb3⟩
 have HI3 := Lib.hid (HI2.out.below hb3)
 have HX := Lib.hid hx
 clear hx HI2
 have HB3 := Lib.hid (HBc.out.next hb3)
 clear c2_0 c2_1 c2_2 c2_3 c2_4 c2_5 c2_6 c2_7 hb3 HBc
 go_wp2_with fail
 clear FR FI FB HVX
 go_loopw [11] (fun vi wr => ∃ (k : Nat) (s : St) (m : Img) (pv fv lv ev : Value), k ≤ X.length ∧ vi = .int .i64 k ∧ JB s m ∧ IOwn wr 0 pv fv lv ev m ∧ RAt wr xA X ∧ Bx u0 [(gm, .cells #[pv, fv, lv, ev] 32 (0, 0)), (gs, .cells #[.string s.a, .string s.b, .int .i64 s.sel] 47 (0, 0)), (u0.heap.size, .cells #[.int .i64 bf, .int .i64 bd, .int .i64 br, .int .i64 bp, .float .f64 be1, .float .f64 be2, .float .f64 be3, .slice A ncs cap] 26 (0, 0))] wr) (fun vi _ => X.length - (intOf vi).toNat)
 case atStart => exact ⟨0, St.zero, i0, _, _, _, _, Nat.zero_le _, rfl, HJ0.out, HI3.out, HX.out, HB3.out⟩
 case round =>
  obtain ⟨k, s, m, pv, fv, lv, ev, hk, rfl, hj, hI, hx, hbr⟩ := hrel
  obtain ⟨G1, f1, rfl⟩ := own_slice hI.p
  obtain ⟨G2, f2, rfl⟩ := own_slice hI.f
  obtain ⟨G3, f3, rfl⟩ := own_slice hI.l
  obtain ⟨G4, f4, rfl⟩ := own_slice hI.e
  have HJ := Lib.hid hj
  have HI := Lib.hid hI
  have HXR := Lib.hid hx
  obtain ⟨sa, sb, ss⟩ := s
  simp only at hbr
  have HBR := Lib.hid hbr
  clear hj hI hx hbr HI3 HX HB3
  have hgm : gm < wr.heap.size := (Array.getElem?_eq_some_iff.1 HBR.out.r0).1
  have hgs : gs < wr.heap.size := (Array.getElem?_eq_some_iff.1 HBR.out.r1).1
  have hgb0 : u0.heap.size < wr.heap.size := (Array.getElem?_eq_some_iff.1 HBR.out.r2).1
  by_cases hlt : k < X.length
  ·have hlI : (k : Int) < (X.length : Int) := by omega
   have hlB : decide ((k : Int) < (X.length : Int)) = true := decide_eq_true hlI
   obtain ⟨bb, off, rfl, hbb, c0, c1, c2, c3, c4⟩ := HXR.out.at_ hlt
   have hok := HOK.out k hlt
   generalize X[k] = x at *
   have hst := HST.out ⟨sa, sb, ss⟩ m x HJ.out hok
   have hfu := HFU.out ⟨sa, sb, ss⟩ m x HJ.out
   have FAX := Lib.hid (fun pv fv lv ev wx hc h => FA.out A cap ⟨sa, sb, ss⟩ pv fv lv ev m x wx hc HJ.out h)
   have FPX := Lib.hid (fun pv fv lv ev wx hc h => FP.out A cap pv fv lv ev ⟨sa, sb, ss⟩ m x wx hc HJ.out h hok)
   obtain ⟨R, hR⟩ : ∃ R, AB ⟨sa, sb, ss⟩ m x 100000 = R := ⟨_, rfl⟩
   rw [hR] at FAX hst
   clear hR hok
   obtain ⟨⟨ta, tb, ts⟩, m', nn, er⟩ := R
   generalize hM2 : applyM m x = m2 at *
   clear hM2
   obtain ⟨x1, x2, x3, x4, x5⟩ := x
   simp only [Rc.agg, St.agg] at FAX FPX
   simp only at c0 c1 c2 c3 c4 hfu
   have HCASE := Lib.hid hst
   have HFULL := Lib.hid hfu
   clear hst hfu
   have HRC := Lib.hid (fun (wx : World) (h : Below wr.heap.size wr wx) => (⟨(h.cell (p := ⟨bb, _, none⟩) hbb).trans c0, (h.cell (p := ⟨bb, _, none⟩) hbb).trans c1, (h.cell (p := ⟨bb, _, none⟩) hbb).trans c2, (h.cell (p := ⟨bb, _, none⟩) hbb).trans c3, (h.cell (p := ⟨bb, _, none⟩) hbb).trans c4⟩ : wx.cell? ⟨bb, off + k * 5, none⟩ = some (.int .i64 x1) ∧ wx.cell? ⟨bb, off + k * 5 + 1, none⟩ = some (.int .i64 x2) ∧ wx.cell? ⟨bb, off + k * 5 + 2, none⟩ = some (.int .i64 x3) ∧ wx.cell? ⟨bb, off + k * 5 + 3, none⟩ = some (.int .i64 x4) ∧ wx.cell? ⟨bb, off + k * 5 + 4, none⟩ = some (.int .i64 x5)))
   clear c0 c1 c2 c3 c4
   go_wp2_with fail
   refine ghostM [7, 8, 15, 16] (fun p γ L wx => St2 wr #[.string ta, .string tb, .int .i64 ts] m' nn er p (γ 7) (γ 8) (γ 10) (γ 13) (γ 14) (L 10) (L 13) (L 14) wx) (by kernel_rfl) (by kernel_rfl) (fun γ => St2.start) ?_
   apply GM.walk_plain (by kernel_rfl) (by kernel_rfl) (fun γ => by rfl)
   ·intro γ L p wx h1 h2 hup hlo hS K hK
    have HXx := HBR.out.next hS.bl
    obtain ⟨b0, b1, b2, b3, b4, b5, b6, b7⟩ := boxRow HXx.r2
    clear HXx
    have HK2 := Lib.hid hK
    have HS := Lib.hid hS
    clear hK h1 h2 hup hlo hS
    go_simp
    exact HK2.out _ HS.out
   try simp only [Act.put, setIfInBounds_toArray, set_cons_succ, set_cons_zero]
   apply GM.walk_plain (by kernel_rfl) (by kernel_rfl) (fun γ => by rfl)
   ·intro γ L p wx h1 h2 hup hlo hS K hK
    have HXx := HBR.out.next hS.bl
    have s0 := cell_of_row _ _ 0 _ _ (0, 0) HXx.r1
    have s1 := cell_of_row _ _ 1 _ _ (0, 0) HXx.r1
    have s2 := cell_of_row _ _ 2 _ _ (0, 0) HXx.r1
    simp only [List.getElem?_toArray, List.getElem?_cons_zero, List.getElem?_cons_succ] at s0 s1 s2
    clear HXx
    have HK2 := Lib.hid hK
    have HS := Lib.hid hS
    clear hK h1 h2 hup hlo hS
    go_simp
    exact HK2.out _ HS.out
   try simp only [Act.put, setIfInBounds_toArray, set_cons_succ, set_cons_zero]
   apply GM.walk_plain (by kernel_rfl) (by kernel_rfl) (fun γ => by rfl)
   ·intro γ L p wx h1 h2 hup hlo hS K hK
    obtain ⟨q0, q1, q2, q3⟩ := imRowCells (HBR.out.next hS.bl).r0
    have HK2 := Lib.hid hK
    have HS := Lib.hid hS
    clear hK h1 h2 hup hlo hS
    go_simp
    exact HK2.out _ HS.out
   try simp only [Act.put, setIfInBounds_toArray, set_cons_succ, set_cons_zero]
   apply GM.walk_plain (by kernel_rfl) (by kernel_rfl) (fun γ => by rfl)
   ·intro γ L p wx h1 h2 hup hlo hS K hK
    have HK2 := Lib.hid hK
    have HS := Lib.hid hS
    clear hK h1 h2 hup hlo hS
    go_simp
    exact HK2.out _ HS.out
   try simp only [Act.put, setIfInBounds_toArray, set_cons_succ, set_cons_zero]
   apply GM.walk_plain (by kernel_rfl) (by kernel_rfl) (fun γ => by rfl)
   ·intro γ L p wx h1 h2 hup hlo hS K hK
    have HK2 := Lib.hid hK
    have HS := Lib.hid hS
    clear hK h1 h2 hup hlo hS
    go_simp
    exact HK2.out _ HS.out
   try simp only [Act.put, setIfInBounds_toArray, set_cons_succ, set_cons_zero]
   apply GM.walk_plain (by kernel_rfl) (by kernel_rfl) (fun γ => by rfl)
   ·intro γ L p wx h1 h2 hup hlo hS K hK
    obtain ⟨c0, c1, c2, c3, c4⟩ := HRC.out wx hS.bl
    have HK2 := Lib.hid hK
    have HS := Lib.hid hS
    clear hK h1 h2 hup hlo hS
    go_simp
    exact HK2.out _ HS.out
   try simp only [Act.put, setIfInBounds_toArray, set_cons_succ, set_cons_zero]
   apply GM.walk_plain (by kernel_rfl) (by kernel_rfl) (fun γ => by rfl)
   ·intro γ L p wx h1 h2 hup hlo hS K hK
    obtain ⟨c0, c1, c2, c3, c4⟩ := HRC.out wx hS.bl
    have HK2 := Lib.hid hK
    have HS := Lib.hid hS
    clear hK h1 h2 hup hlo hS
    go_simp
    exact HK2.out _ HS.out
   try simp only [Act.put, setIfInBounds_toArray, set_cons_succ, set_cons_zero]
   apply GM.walk_turn 0 rfl (by kernel_rfl) (by decide) (.inl rfl) (fun γ => by rfl)
   ·intro γ L wx h1 h2 hS K hK
    have hbl := hS.bl
    have HK2 := Lib.hid hK
    have HS := Lib.hid hS
    clear hK h1 h2 hS
    go_simp
    go_at_call 16
    refine (FAX.out _ _ _ _ wx (HCX.out _ (HBR.out.next hbl).below) (HI.out.below hbl).view).mono ?_
    rintro e w' ⟨pv', fv', lv', ev', rfl, hI', hb'⟩
    exact HK2.out _ _ (HS.out.step1 hI' hb')
   try simp only [Act.put, setIfInBounds_toArray, set_cons_succ, set_cons_zero]
   apply GM.walk_turn 1 rfl (by kernel_rfl) (by decide) (.inr ⟨7, rfl, by kernel_rfl⟩) (fun γ => by rfl)
   ·intro γ L wx h1 h2 hS K hK
    have HK2 := Lib.hid hK
    have HS := Lib.hid hS
    clear hK h1 h2 hS
    go_simp
    exact HK2.out (γ 7) _ HS.out.step2
   try simp only [Act.put, setIfInBounds_toArray, set_cons_succ, set_cons_zero]
   apply GM.walk_plain (by kernel_rfl) (by kernel_rfl) (fun γ => by rfl)
   ·intro γ L p wx h1 h2 hup hlo hS K hK
    obtain ⟨pv', fv', lv', ev', hy', -, -, -⟩ := hS.tup (by have := hlo 1 8 rfl (h2 8 (by kernel_rfl)); omega)
    have HK2 := Lib.hid hK
    have HS := Lib.hid hS
    clear hK h1 h2 hup hlo hS
    rw [hy'] at HK2 ⊢
    clear hy'
    go_simp
    exact HK2.out _ HS.out
   try simp only [Act.put, setIfInBounds_toArray, set_cons_succ, set_cons_zero]
   apply GM.walk_ghost (by kernel_rfl) (by kernel_rfl) (fun γ => by rfl)
   ·intro γ L p wx h1 h2 hup hlo hS K hK
    have hp2 := hlo 1 8 rfl (h2 8 (by kernel_rfl))
    have hp3 := hup 3 16 rfl (by kernel_rfl)
    obtain ⟨pv', fv', lv', ev', hy', -, hI', hx'⟩ := hS.tup (by omega)
    have HK2 := Lib.hid hK
    have HS := Lib.hid (hS.ex (by omega) h1 (by omega) hI' hx')
    rw [hy'] at HK2 ⊢
    clear hK h1 h2 hS hy' hx' hI' hup hlo hp2 hp3
    go_simp
    exact HK2.out (.agg #[pv', fv', lv', ev']) _ HS.out
   try simp only [Act.put, setIfInBounds_toArray, set_cons_succ, set_cons_zero]
   apply GM.walk_plain (by kernel_rfl) (by kernel_rfl) (fun γ => by rfl)
   ·intro γ L p wx h1 h2 hup hlo hS K hK
    obtain ⟨pv', fv', lv', ev', hy', -, -, -⟩ := hS.tup (by have := hlo 1 8 rfl (h2 8 (by kernel_rfl)); omega)
    have HK2 := Lib.hid hK
    have HS := Lib.hid hS
    clear hK h1 h2 hup hlo hS
    rw [hy'] at HK2 ⊢
    clear hy'
    go_simp
    exact HK2.out _ HS.out
   try simp only [Act.put, setIfInBounds_toArray, set_cons_succ, set_cons_zero]
   apply GM.walk_plain (by kernel_rfl) (by kernel_rfl) (fun γ => by rfl)
   ·intro γ L p wx h1 h2 hup hlo hS K hK
    obtain ⟨pv', fv', lv', ev', hy', -, -, -⟩ := hS.tup (by have := hlo 1 8 rfl (h2 8 (by kernel_rfl)); omega)
    have HK2 := Lib.hid hK
    have HS := Lib.hid hS
    clear hK h1 h2 hup hlo hS
    rw [hy'] at HK2 ⊢
    clear hy'
    go_simp
    exact HK2.out _ HS.out
   try simp only [Act.put, setIfInBounds_toArray, set_cons_succ, set_cons_zero]
   apply GM.walk_ghost (by kernel_rfl) (by kernel_rfl) (fun γ => by rfl)
   ·intro γ L p wx h1 h2 hup hlo hS K hK
    have HK2 := Lib.hid hK
    have HS := Lib.hid hS
    have HH := Lib.hid h1
    clear hK h1 h2 hS hup hlo
    go_simp
    exact HK2.out _ _ (HS.out.alloc1 HH.out rfl)
   try simp only [Act.put, setIfInBounds_toArray, set_cons_succ, set_cons_zero]
   apply GM.walk_ghost (by kernel_rfl) (by kernel_rfl) (fun γ => by rfl)
   ·intro γ L p wx h1 h2 hup hlo hS K hK
    have HK2 := Lib.hid hK
    have HS := Lib.hid hS
    have HH := Lib.hid h1
    clear hK h1 h2 hS hup hlo
    go_simp
    exact HK2.out _ _ (HS.out.alloc2 HH.out rfl)
   try simp only [Act.put, setIfInBounds_toArray, set_cons_succ, set_cons_zero]
   apply GM.walk_turn 2 rfl (by kernel_rfl) (by decide) (.inr ⟨8, rfl, by kernel_rfl⟩) (fun γ => by rfl)
   ·intro γ L wx h1 h2 hS K hK
    obtain ⟨g, cs', hu, hge, hr0, hcs, -⟩ := hS.a1 (h2 13 (by kernel_rfl))
    exact wp_put 47 (.tmp 12) (.tmp 42) rfl g #[.string ta, .string tb, .int .i64 ts] _ _ hu rfl hr0 (by kernel_rfl) hcs (by kernel_rfl) (fun w' hr hgr => hK undef w' (hS.step3 (h2 13 (by kernel_rfl)) hu hge hr0 rfl hr.out hgr.out))
   try simp only [Act.put]
   apply GM.walk_turn 3 rfl (by kernel_rfl) (by decide) (.inr ⟨15, rfl, by kernel_rfl⟩) (fun γ => by rfl)
   ·intro γ L wx h1 h2 hS K hK
    obtain ⟨g, cs', hu, hge, hr0, hcs⟩ := hS.a2 (h2 14 (by kernel_rfl))
    obtain ⟨pv', fv', lv', ev', hI', hx', hy', hz', -⟩ := hS.c (by decide)
    have hz' := hz' (h2 10 (by kernel_rfl))
    exact wp_put 32 (.tmp 13) (.tmp 43) rfl g #[pv', fv', lv', ev'] _ _ hu hz' hr0 (by kernel_rfl) hcs (one4 hI') (fun w' hr hgr => hK undef w' (hS.step4 (h2 14 (by kernel_rfl)) (h2 10 (by kernel_rfl)) hu hge hr0 hI' hx' (hy' (by decide)) hz' hr.out hgr.out))
   try simp only [Act.put]
   apply GM.walk_plain (by kernel_rfl) (by kernel_rfl) (fun γ => by rfl)
   ·intro γ L p wx h1 h2 hup hlo hS K hK
    have HK2 := Lib.hid hK
    have HS := Lib.hid hS
    clear hK h1 h2 hup hlo hS
    go_simp
    exact HK2.out _ HS.out
   try simp only [Act.put, setIfInBounds_toArray, set_cons_succ, set_cons_zero]
   apply GM.walk_plain (by kernel_rfl) (by kernel_rfl) (fun γ => by rfl)
   ·intro γ L p wx h1 h2 hup hlo hS K hK
    have HK2 := Lib.hid hK
    have HS := Lib.hid hS
    clear hK h1 h2 hup hlo hS
    go_simp
    exact HK2.out _ HS.out
   try simp only [Act.put, setIfInBounds_toArray, set_cons_succ, set_cons_zero]
   refine GhostV.walk_nil (fun γ L w4 hall hx => ?_)
   have hSt : St2 wr #[.string ta, .string tb, .int .i64 ts] m' nn er 4 (γ 7) (γ 8) (γ 10) (γ 13) (γ 14) (L 10) (L 13) (L 14) w4 := hx.done (fun t ht => hall t (by simp only [List.mem_cons, List.not_mem_nil, or_false] at ht; rcases ht with rfl | rfl | rfl | rfl <;> decide))
   have hl3 : L 13 = true := hall 13 (by decide)
   clear hx hall
   obtain ⟨pv', fv', lv', ev', hI', -, -, -, hrow0⟩ := hSt.c (by decide)
   obtain ⟨go, hu2, hge2, hrow2⟩ := hrow0 (by decide)
   obtain ⟨gt, cs1, hu1, hge1, hrow1, -, hcs1⟩ := hSt.a1 hl3
   obtain rfl := hcs1 (by decide)
   have hbl := hSt.bl
   clear hSt hrow0 hcs1 hl3
   generalize γ 13 = v13 at *
   generalize γ 14 = v14 at *
   subst hu1 hu2
   generalize γ 7 = v7 at *
   generalize γ 8 = v8 at *
   generalize γ 10 = v10 at *
   obtain ⟨K1, g1, rfl⟩ := own_slice hI'.p
   obtain ⟨K2, g2, rfl⟩ := own_slice hI'.f
   obtain ⟨K3, g3, rfl⟩ := own_slice hI'.l
   obtain ⟨K4, g4, rfl⟩ := own_slice hI'.e
   have hne2 : gt ≠ go := fun e => by subst e; rw [hrow1] at hrow2; injection hrow2 with q; injection q with _ q _; exact absurd q (by decide)
   have HI4 := Lib.hid (hI'.mono (Nat.zero_le _))
   have HM4 := Lib.hid (HI.out.below hbl)
   have HX4 := Lib.hid (HXR.out.below hbl)
   have HB4 : Hid (Bx u0 [(go, .cells #[.slice K1 m'.ph.length g1, .slice K2 m'.fl.length g2, .slice K3 m'.lv.length g3, .slice K4 m'.en.length g4] 32 (0, 0)), (gt, .cells #[.string ta, .string tb, .int .i64 ts] 47 (0, 0)), (gm, .cells #[.slice G1 m.ph.length f1, .slice G2 m.fl.length f2, .slice G3 m.lv.length f3, .slice G4 m.en.length f4] 32 (0, 0)), (gs, .cells #[.string sa, .string sb, .int .i64 ss] 47 (0, 0)), (u0.heap.size, .cells #[.int .i64 bf, .int .i64 bd, .int .i64 br, .int .i64 bp, .float .f64 be1, .float .f64 be2, .float .f64 be3, .slice A ncs cap] 26 (0, 0))] w4) := Lib.hid ⟨(HBR.out.next hbl).below, by simp only [List.mem_cons, List.not_mem_nil, or_false]; rintro q (rfl | rfl | rfl | rfl | rfl); exact hrow2; exact hrow1; exact (HBR.out.next hbl).r0; exact (HBR.out.next hbl).r1; exact (HBR.out.next hbl).r2⟩
   have gl1 : gm < go := by omega
   have gl2 : gs < go := by omega
   have gl3 : gm < gt := by omega
   have gl4 : gs < gt := by omega
   have HRC4 := Lib.hid (fun wx (h : Below w4.heap.size w4 wx) => HRC.out wx (hbl.trans (h.mono hbl.size)))
   clear hI' hrow1 hrow2 hbl HI HXR HBR HRC FAX
   rcases HCASE.out with ⟨hfull, hres⟩ | ⟨hnf, s2, n2, hres, hj2⟩
   ·injection hres with q1 q2
    injection q2 with q2 q3
    injection q3 with q3 q4
    subst q4
    obtain ⟨hk1, hat, hnr⟩ := HFULL.out hfull
    subst hk1
    have hfi : findI m.en x2 x3 = -1 := by unfold findI; rw [hat]
    have hsm := (HSM.out ⟨sa, sb, ss⟩ m HJ.out).2.2.2.1
    have FFX := Lib.hid (fun pv fv lv ev wx h => FF.out pv fv lv ev m x2 x3 wx h hsm)
    rw [hfi] at FFX
    have w1' : IntKind.i64.wrap ((ncs : Int) + (m.en.length : Int)) = (ncs : Int) + (m.en.length : Int) := by rw [IntKind.wrap_i64]; omega
    have w2' : IntKind.i64.wrap ((ncs : Int) + (m.en.length : Int) + 1) = (ncs : Int) + (m.en.length : Int) + 1 := by rw [IntKind.wrap_i64]; omega
    have w3' : IntKind.i64.wrap (18 * ((ncs : Int) + (m.en.length : Int) + 1)) = 18 * ((ncs : Int) + (m.en.length : Int) + 1) := by rw [IntKind.wrap_i64]; omega
    have w4' : IntKind.i64.wrap (18 * ((ncs : Int) + (m.en.length : Int) + 1) + 6) = 18 * ((ncs : Int) + (m.en.length : Int) + 1) + 6 := by rw [IntKind.wrap_i64]; omega
    have hnrB : decide (18 * ((ncs : Int) + (m.en.length : Int) + 1) + 6 ≤ br) = false := decide_eq_false (by omega)
    clear hsm hat hfi hfull hnr q1 q2 q3
    go_wp2_with fail
    refine Bag.region (fun wx => Below w4.heap.size w4 wx) (by kernel_rfl) (by kernel_rfl) (Below.refl _ _).drew ?_
    iterate 36 (first
        | (apply Bag.walk_yes (by rfl)
           (intro wx hx K hK
            have HXx := HB4.out.next hx
            obtain ⟨q0, q1, q2, q3⟩ := imRowCells HXx.r2
            obtain ⟨b0, b1, b2, b3, b4, b5, b6, b7⟩ := boxRow HXx.r4
            obtain ⟨c0, c1, c2, c3, c4⟩ := HRC4.out wx hx
            first
              | (go_simp
                 first
                  | (go_at_call 17; (with_reducible refine (FFX.out _ _ _ _ _ (HM4.out.below hx).view).mono ?_); rintro e x1 ⟨rfl, hb⟩; exact hK _ (hx.trans (hb.mono hx.size)))
                  | (go_at_K; exact hK _ hx)))
           rfl)
        | (refine Bag.walk_no (by rfl) ?_; simp only [Act.put, List.setIfInBounds_toArray, List.set_cons_succ, List.set_cons_zero]))
    refine Bag.walk_nil (fun w5 hb5 => ?_)
    have HM5 := Lib.hid (HM4.out.below hb5)
    have HX5 := Lib.hid (HX4.out.below hb5)
    have HB5 := Lib.hid (HB4.out.next hb5)
    clear hb5 HB4
    go_wp2_with fail
    go_roundw
    case rel => exact ⟨k + 1, ⟨sa, sb, ss⟩, m, _, _, _, _, by omega, by go_num, HJ.out, HM5.out, HX5.out, HB5.out.less (by simp only [List.mem_cons, List.not_mem_nil, or_false]; rintro p (rfl | rfl | rfl) <;> simp)⟩
    case measure => simp [intOf]; omega
   ·injection hres with q1 q2
    injection q2 with q2 q3
    injection q3 with q3 q4
    subst q1 q2 q3 q4
    have HJ2 := Lib.hid hj2
    obtain ⟨-, -, -, -, hra, hrb, -⟩ := HSM.out _ _ hj2
    clear hj2 hnf HFULL FF HCASE HFU HST
    go_wp2_with fail
    refine ghostM [6, 7, 8, 11] (fun p γ L wx => Sb w4 m' 0 p (γ 6) (γ 7) (γ 8) (γ 10) (L 10) wx) (by kernel_rfl) (by kernel_rfl) (fun γ => Sb.start) ?_
    apply GM.walk_plain (by kernel_rfl) (by kernel_rfl) (fun γ => by rfl)
    ·intro γ L p wx h1 h2 hup hlo hS K hK
     obtain ⟨b0, b1, b2, b3, b4, b5, b6, b7⟩ := boxRow (HB4.out.next hS.bl).r4
     have HK2 := Lib.hid hK
     have HS := Lib.hid hS
     clear hK h1 h2 hup hlo hS
     go_simp
     exact HK2.out _ HS.out
    try simp only [Act.put, setIfInBounds_toArray, set_cons_succ, set_cons_zero]
    apply GM.walk_plain (by kernel_rfl) (by kernel_rfl) (fun γ => by rfl)
    ·intro γ L p wx h1 h2 hup hlo hS K hK
     obtain ⟨q0, q1, q2, q3⟩ := imRowCells (HB4.out.next hS.bl).r2
     have HK2 := Lib.hid hK
     have HS := Lib.hid hS
     clear hK h1 h2 hup hlo hS
     go_simp
     exact HK2.out _ HS.out
    try simp only [Act.put, setIfInBounds_toArray, set_cons_succ, set_cons_zero]
    apply GM.walk_plain (by kernel_rfl) (by kernel_rfl) (fun γ => by rfl)
    ·intro γ L p wx h1 h2 hup hlo hS K hK
     have HK2 := Lib.hid hK
     have HS := Lib.hid hS
     clear hK h1 h2 hup hlo hS
     go_simp
     exact HK2.out _ HS.out
    try simp only [Act.put, setIfInBounds_toArray, set_cons_succ, set_cons_zero]
    apply GM.walk_plain (by kernel_rfl) (by kernel_rfl) (fun γ => by rfl)
    ·intro γ L p wx h1 h2 hup hlo hS K hK
     have HK2 := Lib.hid hK
     have HS := Lib.hid hS
     clear hK h1 h2 hup hlo hS
     go_simp
     exact HK2.out _ HS.out
    try simp only [Act.put, setIfInBounds_toArray, set_cons_succ, set_cons_zero]
    apply GM.walk_plain (by kernel_rfl) (by kernel_rfl) (fun γ => by rfl)
    ·intro γ L p wx h1 h2 hup hlo hS K hK
     obtain ⟨c0, c1, c2, c3, c4⟩ := HRC4.out wx hS.bl
     have HK2 := Lib.hid hK
     have HS := Lib.hid hS
     clear hK h1 h2 hup hlo hS
     go_simp
     exact HK2.out _ HS.out
    try simp only [Act.put, setIfInBounds_toArray, set_cons_succ, set_cons_zero]
    apply GM.walk_plain (by kernel_rfl) (by kernel_rfl) (fun γ => by rfl)
    ·intro γ L p wx h1 h2 hup hlo hS K hK
     obtain ⟨c0, c1, c2, c3, c4⟩ := HRC4.out wx hS.bl
     have HK2 := Lib.hid hK
     have HS := Lib.hid hS
     clear hK h1 h2 hup hlo hS
     go_simp
     exact HK2.out _ HS.out
    try simp only [Act.put, setIfInBounds_toArray, set_cons_succ, set_cons_zero]
    apply GM.walk_turn 0 rfl (by kernel_rfl) (by decide) (.inl rfl) (fun γ => by rfl)
    ·intro γ L wx h1 h2 hS K hK
     have hbl := hS.bl
     have HK2 := Lib.hid hK
     have HS := Lib.hid hS
     clear hK h1 h2 hS
     go_simp
     go_at_call 18
     refine (FPX.out _ _ _ _ wx (HCX.out _ (HB4.out.next hbl).below) (HM4.out.below hbl).view).mono ?_
     rintro e w' ⟨pv', fv', lv', ev', rfl, hI', hb'⟩
     exact HK2.out _ _ (HS.out.step1 hI' hb')
    try simp only [Act.put, setIfInBounds_toArray, set_cons_succ, set_cons_zero]
    apply GM.walk_turn 1 rfl (by kernel_rfl) (by decide) (.inr ⟨6, rfl, by kernel_rfl⟩) (fun γ => by rfl)
    ·intro γ L wx h1 h2 hS K hK
     have HK2 := Lib.hid hK
     have HS := Lib.hid hS
     clear hK h1 h2 hS
     go_simp
     exact HK2.out (γ 6) _ HS.out.step2
    try simp only [Act.put, setIfInBounds_toArray, set_cons_succ, set_cons_zero]
    apply GM.walk_turn 2 rfl (by kernel_rfl) (by decide) (.inr ⟨7, rfl, by kernel_rfl⟩) (fun γ => by rfl)
    ·intro γ L wx h1 h2 hS K hK
     obtain ⟨pv', fv', lv', ev', hI', hx', hy'⟩ := hS.tup (by decide)
     have HK2 := Lib.hid hK
     have HS := Lib.hid (hS.step3 hI' hx')
     rw [hy'] at HK2 ⊢
     clear hK h1 h2 hS hy' hx' hI'
     go_simp
     exact HK2.out (.agg #[pv', fv', lv', ev']) _ HS.out
    try simp only [Act.put, setIfInBounds_toArray, set_cons_succ, set_cons_zero]
    apply GM.walk_plain (by kernel_rfl) (by kernel_rfl) (fun γ => by rfl)
    ·intro γ L p wx h1 h2 hup hlo hS K hK
     obtain ⟨pv', fv', lv', ev', -, -, hy'⟩ := hS.tup (by have := hlo 1 7 rfl (h2 7 (by kernel_rfl)); omega)
     have HK2 := Lib.hid hK
     have HS := Lib.hid hS
     clear hK h1 h2 hup hlo hS
     rw [hy'] at HK2 ⊢
     clear hy'
     go_simp
     exact HK2.out _ HS.out
    try simp only [Act.put, setIfInBounds_toArray, set_cons_succ, set_cons_zero]
    apply GM.walk_ghost (by kernel_rfl) (by kernel_rfl) (fun γ => by rfl)
    ·intro γ L p wx h1 h2 hup hlo hS K hK
     have HK2 := Lib.hid hK
     have HS := Lib.hid hS
     have HH := Lib.hid h1
     clear hK h1 h2 hS hup hlo
     go_simp
     exact HK2.out _ _ (HS.out.alloc HH.out rfl)
    try simp only [Act.put, setIfInBounds_toArray, set_cons_succ, set_cons_zero]
    apply GM.walk_turn 3 rfl (by kernel_rfl) (by decide) (.inr ⟨8, rfl, by kernel_rfl⟩) (fun γ => by rfl)
    ·intro γ L wx h1 h2 hS K hK
     obtain ⟨pv', fv', lv', ev', hI', hx', hy', hz'⟩ := hS.img
     obtain ⟨g, cs', hu, hge, hr0, hcs⟩ := hS.al (h2 10 (by kernel_rfl))
     exact wp_put 32 (.tmp 16) (.tmp 92) rfl g #[pv', fv', lv', ev'] _ _ hu hz' hr0 (by kernel_rfl) hcs (one4 hI') (fun w' hr hgr' => hK undef w' (hS.step4 (h2 10 (by kernel_rfl)) hu hge hr0 hI' hx' hy' hz' hr.out hgr'.out))
    try simp only [Act.put]
    apply GM.walk_plain (by kernel_rfl) (by kernel_rfl) (fun γ => by rfl)
    ·intro γ L p wx h1 h2 hup hlo hS K hK
     have HK2 := Lib.hid hK
     have HS := Lib.hid hS
     clear hK h1 h2 hup hlo hS
     go_simp
     exact HK2.out _ HS.out
    try simp only [Act.put, setIfInBounds_toArray, set_cons_succ, set_cons_zero]
    refine GhostV.walk_nil (fun γ L w5 hall hx => ?_)
    have hSb : Sb w4 m' 0 4 (γ 6) (γ 7) (γ 8) (γ 10) (L 10) w5 := hx.done (fun t ht => hall t (by simp only [List.mem_cons, List.not_mem_nil, or_false] at ht; rcases ht with rfl | rfl | rfl | rfl <;> decide))
    clear hx hall
    obtain ⟨pv', fv', lv', ev', hI', -, -, -, hrow0⟩ := hSb.c (by decide)
    obtain ⟨gw, hu, hge, hrow⟩ := hrow0 (by decide)
    have hbl := hSb.bl
    clear hSb hrow0
    generalize γ 10 = v10' at *
    subst hu
    generalize γ 6 = v6 at *
    generalize γ 7 = v7' at *
    generalize γ 8 = v8' at *
    obtain ⟨J1, j1, rfl⟩ := own_slice hI'.p
    obtain ⟨J2, j2, rfl⟩ := own_slice hI'.f
    obtain ⟨J3, j3, rfl⟩ := own_slice hI'.l
    obtain ⟨J4, j4, rfl⟩ := own_slice hI'.e
    have HW5 := Lib.hid (hI'.mono (Nat.zero_le _))
    have HI5 := Lib.hid (HI4.out.below hbl)
    have HX5 := Lib.hid (HX4.out.below hbl)
    have HB5 := Lib.hid (HB4.out.make hrow hbl)
    clear hI' hrow hbl HB4 HI4 HX4 HM4 HRC4 FPX
    go_wp2_with fail
    refine ghostM [] (fun p γ L wx => Below w5.heap.size w5 wx ∧ (L 15 = true → ∃ pv fv lv ev, IOwn wx 0 pv fv lv ev m' ∧ γ 15 = .agg #[pv, fv, lv, ev])) (by kernel_rfl) (by kernel_rfl) (fun γ => ⟨by exact ⟨rfl, rfl, rfl, Nat.le_refl _, fun _ _ => rfl⟩, fun h => absurd h (by decide)⟩) ?_
    apply GM.walk_plain (by kernel_rfl) (by kernel_rfl) (fun γ => by rfl)
    ·intro γ L p wx h1 h2 hup hlo hS K hK
     have HK2 := Lib.hid hK
     have HS := Lib.hid hS
     clear hK h1 h2 hup hlo hS
     go_simp
     exact HK2.out _ HS.out
    try simp only [Act.put, setIfInBounds_toArray, set_cons_succ, set_cons_zero]
    apply GM.walk_plain (by kernel_rfl) (by kernel_rfl) (fun γ => by rfl)
    ·intro γ L p wx h1 h2 hup hlo hS K hK
     have HK2 := Lib.hid hK
     have HS := Lib.hid hS
     clear hK h1 h2 hup hlo hS
     go_simp
     exact HK2.out _ HS.out
    try simp only [Act.put, setIfInBounds_toArray, set_cons_succ, set_cons_zero]
    apply GM.walk_plain (by kernel_rfl) (by kernel_rfl) (fun γ => by rfl)
    ·intro γ L p wx h1 h2 hup hlo hS K hK
     have HK2 := Lib.hid hK
     have HS := Lib.hid hS
     clear hK h1 h2 hup hlo hS
     go_simp
     exact HK2.out _ HS.out
    try simp only [Act.put, setIfInBounds_toArray, set_cons_succ, set_cons_zero]
    apply GM.walk_plain (by kernel_rfl) (by kernel_rfl) (fun γ => by rfl)
    ·intro γ L p wx h1 h2 hup hlo hS K hK
     have HK2 := Lib.hid hK
     have HS := Lib.hid hS
     clear hK h1 h2 hup hlo hS
     go_simp
     exact HK2.out _ HS.out
    try simp only [Act.put, setIfInBounds_toArray, set_cons_succ, set_cons_zero]
    apply GM.walk_plain (by kernel_rfl) (by kernel_rfl) (fun γ => by rfl)
    ·intro γ L p wx h1 h2 hup hlo hS K hK
     have HK2 := Lib.hid hK
     have HS := Lib.hid hS
     clear hK h1 h2 hup hlo hS
     go_simp
     exact HK2.out _ HS.out
    try simp only [Act.put, setIfInBounds_toArray, set_cons_succ, set_cons_zero]
    apply GM.walk_plain (by kernel_rfl) (by kernel_rfl) (fun γ => by rfl)
    ·intro γ L p wx h1 h2 hup hlo hS K hK
     have HK2 := Lib.hid hK
     have HS := Lib.hid hS
     clear hK h1 h2 hup hlo hS
     go_simp
     exact HK2.out _ HS.out
    try simp only [Act.put, setIfInBounds_toArray, set_cons_succ, set_cons_zero]
    apply GM.walk_plain (by kernel_rfl) (by kernel_rfl) (fun γ => by rfl)
    ·intro γ L p wx h1 h2 hup hlo hS K hK
     have HK2 := Lib.hid hK
     have HS := Lib.hid hS
     clear hK h1 h2 hup hlo hS
     go_simp
     exact HK2.out _ HS.out
    try simp only [Act.put, setIfInBounds_toArray, set_cons_succ, set_cons_zero]
    apply GM.walk_plain (by kernel_rfl) (by kernel_rfl) (fun γ => by rfl)
    ·intro γ L p wx h1 h2 hup hlo hS K hK
     obtain ⟨q0, q1, q2, q3⟩ := imRowCells (HB5.out.next hS.1).r1
     have HK2 := Lib.hid hK
     have HS := Lib.hid hS
     clear hK h1 h2 hup hlo hS
     go_simp
     exact HK2.out _ HS.out
    try simp only [Act.put, setIfInBounds_toArray, set_cons_succ, set_cons_zero]
    apply GM.walk_plain (by kernel_rfl) (by kernel_rfl) (fun γ => by rfl)
    ·intro γ L p wx h1 h2 hup hlo hS K hK
     obtain ⟨q0, q1, q2, q3⟩ := imRowCells (HB5.out.next hS.1).r0
     have HK2 := Lib.hid hK
     have HS := Lib.hid hS
     clear hK h1 h2 hup hlo hS
     go_simp
     exact HK2.out _ HS.out
    try simp only [Act.put, setIfInBounds_toArray, set_cons_succ, set_cons_zero]
    apply GM.walk_plain (by kernel_rfl) (by kernel_rfl) (fun γ => by rfl)
    ·intro γ L p wx h1 h2 hup hlo hS K hK
     have HQ := Lib.hid hS
     have HK2 := Lib.hid hK
     have HS := Lib.hid hS
     clear hK h1 h2 hup hlo hS
     go_simp
     go_at_call 13; refine (FE.out _ _ _ _ _ _ _ _ _ m' wx HJ2.out (HI5.out.below HS.out.1).view (HW5.out.below HS.out.1).view).mono ?_; rintro e w' ⟨rfl, hb'⟩; exact HK2.out _ ⟨HS.out.1.trans (hb'.mono HS.out.1.size), fun q => by obtain ⟨pv, fv, lv, ev, e1, e2⟩ := HS.out.2 q; exact ⟨pv, fv, lv, ev, e1.below hb', e2⟩⟩
    try simp only [Act.put, setIfInBounds_toArray, set_cons_succ, set_cons_zero]
    apply GM.walk_plain (by kernel_rfl) (by kernel_rfl) (fun γ => by rfl)
    ·intro γ L p wx h1 h2 hup hlo hS K hK
     have HK2 := Lib.hid hK
     have HS := Lib.hid hS
     clear hK h1 h2 hup hlo hS
     go_simp
     exact HK2.out _ HS.out
    try simp only [Act.put, setIfInBounds_toArray, set_cons_succ, set_cons_zero]
    apply GM.walk_plain (by kernel_rfl) (by kernel_rfl) (fun γ => by rfl)
    ·intro γ L p wx h1 h2 hup hlo hS K hK
     have HK2 := Lib.hid hK
     have HS := Lib.hid hS
     clear hK h1 h2 hup hlo hS
     go_simp
     exact HK2.out _ HS.out
    try simp only [Act.put, setIfInBounds_toArray, set_cons_succ, set_cons_zero]
    apply GM.walk_plain (by kernel_rfl) (by kernel_rfl) (fun γ => by rfl)
    ·intro γ L p wx h1 h2 hup hlo hS K hK
     have HK2 := Lib.hid hK
     have HS := Lib.hid hS
     clear hK h1 h2 hup hlo hS
     go_simp
     exact HK2.out _ HS.out
    try simp only [Act.put, setIfInBounds_toArray, set_cons_succ, set_cons_zero]
    apply GM.walk_plain (by kernel_rfl) (by kernel_rfl) (fun γ => by rfl)
    ·intro γ L p wx h1 h2 hup hlo hS K hK
     obtain ⟨b0, b1, b2, b3, b4, b5, b6, b7⟩ := boxRow ((HB5.out.next hS.1).rows (u0.heap.size, .cells #[.int .i64 bf, .int .i64 bd, .int .i64 br, .int .i64 bp, .float .f64 be1, .float .f64 be2, .float .f64 be3, .slice A ncs cap] 26 (0, 0)) (by simp))
     have HK2 := Lib.hid hK
     have HS := Lib.hid hS
     clear hK h1 h2 hup hlo hS
     go_simp
     exact HK2.out _ HS.out
    try simp only [Act.put, setIfInBounds_toArray, set_cons_succ, set_cons_zero]
    apply GM.walk_plain (by kernel_rfl) (by kernel_rfl) (fun γ => by rfl)
    ·intro γ L p wx h1 h2 hup hlo hS K hK
     have s0 := cell_of_row _ _ 0 _ _ (0, 0) (HB5.out.next hS.1).r2
     have s1 := cell_of_row _ _ 1 _ _ (0, 0) (HB5.out.next hS.1).r2
     have s2 := cell_of_row _ _ 2 _ _ (0, 0) (HB5.out.next hS.1).r2
     simp only [List.getElem?_toArray, List.getElem?_cons_zero, List.getElem?_cons_succ] at s0 s1 s2
     have HK2 := Lib.hid hK
     have HS := Lib.hid hS
     clear hK h1 h2 hup hlo hS
     go_simp
     exact HK2.out _ HS.out
    try simp only [Act.put, setIfInBounds_toArray, set_cons_succ, set_cons_zero]
    apply GM.walk_ghost (by kernel_rfl) (by kernel_rfl) (fun γ => by rfl)
    ·intro γ L p wx h1 h2 hup hlo hS K hK
     have HK2 := Lib.hid hK
     have HS := Lib.hid hS
     clear hK h1 h2 hS hup hlo
     go_simp
     go_at_call 19
     refine (FY.out A cap _ m' wx (HCX.out _ (HB5.out.next HS.out.1).below) HJ2.out).mono ?_
     rintro e w' ⟨pv', fv', lv', ev', rfl, hI', hb'⟩
     exact HK2.out _ _ ⟨HS.out.1.trans (hb'.mono HS.out.1.size), fun _ => ⟨pv', fv', lv', ev', hI'.mono (Nat.zero_le _), rfl⟩⟩
    try simp only [Act.put, setIfInBounds_toArray, set_cons_succ, set_cons_zero]
    apply GM.walk_plain (by kernel_rfl) (by kernel_rfl) (fun γ => by rfl)
    ·intro γ L p wx h1 h2 hup hlo hS K hK
     obtain ⟨q0, q1, q2, q3⟩ := imRowCells (HB5.out.next hS.1).r1
     have HK2 := Lib.hid hK
     have HS := Lib.hid hS
     clear hK h1 h2 hup hlo hS
     go_simp
     exact HK2.out _ HS.out
    try simp only [Act.put, setIfInBounds_toArray, set_cons_succ, set_cons_zero]
    apply GM.walk_plain (by kernel_rfl) (by kernel_rfl) (fun γ => by rfl)
    ·intro γ L p wx h1 h2 hup hlo hS K hK
     obtain ⟨pv', fv', lv', ev', hIy, hy'⟩ := hS.2 (h2 15 (by kernel_rfl))
     have HIy := Lib.hid hIy
     have HK2 := Lib.hid hK
     have HS := Lib.hid hS
     clear hK h1 h2 hup hlo hS
     rw [hy'] at HK2 ⊢
     clear hy'
     clear hIy
     go_simp
     go_at_call 13; refine (FE.out _ _ _ _ _ _ _ _ _ m' wx HJ2.out HIy.out.view (HI5.out.below HS.out.1).view).mono ?_; rintro e w' ⟨rfl, hb'⟩; exact HK2.out _ ⟨HS.out.1.trans (hb'.mono HS.out.1.size), fun q => by obtain ⟨pv, fv, lv, ev, e1, e2⟩ := HS.out.2 q; exact ⟨pv, fv, lv, ev, e1.below hb', e2⟩⟩
    try simp only [Act.put, setIfInBounds_toArray, set_cons_succ, set_cons_zero]
    apply GM.walk_plain (by kernel_rfl) (by kernel_rfl) (fun γ => by rfl)
    ·intro γ L p wx h1 h2 hup hlo hS K hK
     have HK2 := Lib.hid hK
     have HS := Lib.hid hS
     clear hK h1 h2 hup hlo hS
     go_simp
     exact HK2.out _ HS.out
    try simp only [Act.put, setIfInBounds_toArray, set_cons_succ, set_cons_zero]
    apply GM.walk_plain (by kernel_rfl) (by kernel_rfl) (fun γ => by rfl)
    ·intro γ L p wx h1 h2 hup hlo hS K hK
     have HK2 := Lib.hid hK
     have HS := Lib.hid hS
     clear hK h1 h2 hup hlo hS
     go_simp
     exact HK2.out _ HS.out
    try simp only [Act.put, setIfInBounds_toArray, set_cons_succ, set_cons_zero]
    apply GM.walk_plain (by kernel_rfl) (by kernel_rfl) (fun γ => by rfl)
    ·intro γ L p wx h1 h2 hup hlo hS K hK
     have HK2 := Lib.hid hK
     have HS := Lib.hid hS
     clear hK h1 h2 hup hlo hS
     go_simp
     exact HK2.out _ HS.out
    try simp only [Act.put, setIfInBounds_toArray, set_cons_succ, set_cons_zero]
    apply GM.walk_plain (by kernel_rfl) (by kernel_rfl) (fun γ => by rfl)
    ·intro γ L p wx h1 h2 hup hlo hS K hK
     have HK2 := Lib.hid hK
     have HS := Lib.hid hS
     clear hK h1 h2 hup hlo hS
     go_simp
     exact HK2.out _ HS.out
    try simp only [Act.put, setIfInBounds_toArray, set_cons_succ, set_cons_zero]
    apply GM.walk_plain (by kernel_rfl) (by kernel_rfl) (fun γ => by rfl)
    ·intro γ L p wx h1 h2 hup hlo hS K hK
     have HK2 := Lib.hid hK
     have HS := Lib.hid hS
     clear hK h1 h2 hup hlo hS
     go_simp
     exact HK2.out _ HS.out
    try simp only [Act.put, setIfInBounds_toArray, set_cons_succ, set_cons_zero]
    apply GM.walk_plain (by kernel_rfl) (by kernel_rfl) (fun γ => by rfl)
    ·intro γ L p wx h1 h2 hup hlo hS K hK
     have s0 := cell_of_row _ _ 0 _ _ (0, 0) (HB5.out.next hS.1).r2
     have s1 := cell_of_row _ _ 1 _ _ (0, 0) (HB5.out.next hS.1).r2
     have s2 := cell_of_row _ _ 2 _ _ (0, 0) (HB5.out.next hS.1).r2
     simp only [List.getElem?_toArray, List.getElem?_cons_zero, List.getElem?_cons_succ] at s0 s1 s2
     have HK2 := Lib.hid hK
     have HS := Lib.hid hS
     clear hK h1 h2 hup hlo hS
     go_simp
     exact HK2.out _ HS.out
    try simp only [Act.put, setIfInBounds_toArray, set_cons_succ, set_cons_zero]
    apply GM.walk_plain (by kernel_rfl) (by kernel_rfl) (fun γ => by rfl)
    ·intro γ L p wx h1 h2 hup hlo hS K hK
     have HK2 := Lib.hid hK
     have HS := Lib.hid hS
     clear hK h1 h2 hup hlo hS
     go_simp
     exact HK2.out _ HS.out
    try simp only [Act.put, setIfInBounds_toArray, set_cons_succ, set_cons_zero]
    apply GM.walk_plain (by kernel_rfl) (by kernel_rfl) (fun γ => by rfl)
    ·intro γ L p wx h1 h2 hup hlo hS K hK
     have HK2 := Lib.hid hK
     have HS := Lib.hid hS
     clear hK h1 h2 hup hlo hS
     go_simp
     exact HK2.out _ HS.out
    try simp only [Act.put, setIfInBounds_toArray, set_cons_succ, set_cons_zero]
    apply GM.walk_plain (by kernel_rfl) (by kernel_rfl) (fun γ => by rfl)
    ·intro γ L p wx h1 h2 hup hlo hS K hK
     obtain ⟨b0, b1, b2, b3, b4, b5, b6, b7⟩ := boxRow ((HB5.out.next hS.1).rows (u0.heap.size, .cells #[.int .i64 bf, .int .i64 bd, .int .i64 br, .int .i64 bp, .float .f64 be1, .float .f64 be2, .float .f64 be3, .slice A ncs cap] 26 (0, 0)) (by simp))
     have HK2 := Lib.hid hK
     have HS := Lib.hid hS
     clear hK h1 h2 hup hlo hS
     go_simp
     exact HK2.out _ HS.out
    try simp only [Act.put, setIfInBounds_toArray, set_cons_succ, set_cons_zero]
    apply GM.walk_plain (by kernel_rfl) (by kernel_rfl) (fun γ => by rfl)
    ·intro γ L p wx h1 h2 hup hlo hS K hK
     have hra' : decide ((ta.size : Int) > br) = false := decide_eq_false (by omega)
     have hra2 : ¬ br < (ta.size : Int) := by omega
     have HK2 := Lib.hid hK
     have HS := Lib.hid hS
     clear hK h1 h2 hup hlo hS
     go_simp
     exact HK2.out _ HS.out
    try simp only [Act.put, setIfInBounds_toArray, set_cons_succ, set_cons_zero]
    apply GM.walk_plain (by kernel_rfl) (by kernel_rfl) (fun γ => by rfl)
    ·intro γ L p wx h1 h2 hup hlo hS K hK
     have HK2 := Lib.hid hK
     have HS := Lib.hid hS
     clear hK h1 h2 hup hlo hS
     go_simp
     exact HK2.out _ HS.out
    try simp only [Act.put, setIfInBounds_toArray, set_cons_succ, set_cons_zero]
    apply GM.walk_plain (by kernel_rfl) (by kernel_rfl) (fun γ => by rfl)
    ·intro γ L p wx h1 h2 hup hlo hS K hK
     have HK2 := Lib.hid hK
     have HS := Lib.hid hS
     clear hK h1 h2 hup hlo hS
     go_simp
     exact HK2.out _ HS.out
    try simp only [Act.put, setIfInBounds_toArray, set_cons_succ, set_cons_zero]
    apply GM.walk_plain (by kernel_rfl) (by kernel_rfl) (fun γ => by rfl)
    ·intro γ L p wx h1 h2 hup hlo hS K hK
     have HK2 := Lib.hid hK
     have HS := Lib.hid hS
     clear hK h1 h2 hup hlo hS
     go_simp
     exact HK2.out _ HS.out
    try simp only [Act.put, setIfInBounds_toArray, set_cons_succ, set_cons_zero]
    apply GM.walk_plain (by kernel_rfl) (by kernel_rfl) (fun γ => by rfl)
    ·intro γ L p wx h1 h2 hup hlo hS K hK
     have HK2 := Lib.hid hK
     have HS := Lib.hid hS
     clear hK h1 h2 hup hlo hS
     go_simp
     exact HK2.out _ HS.out
    try simp only [Act.put, setIfInBounds_toArray, set_cons_succ, set_cons_zero]
    apply GM.walk_plain (by kernel_rfl) (by kernel_rfl) (fun γ => by rfl)
    ·intro γ L p wx h1 h2 hup hlo hS K hK
     have s0 := cell_of_row _ _ 0 _ _ (0, 0) (HB5.out.next hS.1).r2
     have s1 := cell_of_row _ _ 1 _ _ (0, 0) (HB5.out.next hS.1).r2
     have s2 := cell_of_row _ _ 2 _ _ (0, 0) (HB5.out.next hS.1).r2
     simp only [List.getElem?_toArray, List.getElem?_cons_zero, List.getElem?_cons_succ] at s0 s1 s2
     have HK2 := Lib.hid hK
     have HS := Lib.hid hS
     clear hK h1 h2 hup hlo hS
     go_simp
     exact HK2.out _ HS.out
    try simp only [Act.put, setIfInBounds_toArray, set_cons_succ, set_cons_zero]
    apply GM.walk_plain (by kernel_rfl) (by kernel_rfl) (fun γ => by rfl)
    ·intro γ L p wx h1 h2 hup hlo hS K hK
     have HK2 := Lib.hid hK
     have HS := Lib.hid hS
     clear hK h1 h2 hup hlo hS
     go_simp
     exact HK2.out _ HS.out
    try simp only [Act.put, setIfInBounds_toArray, set_cons_succ, set_cons_zero]
    apply GM.walk_plain (by kernel_rfl) (by kernel_rfl) (fun γ => by rfl)
    ·intro γ L p wx h1 h2 hup hlo hS K hK
     have HK2 := Lib.hid hK
     have HS := Lib.hid hS
     clear hK h1 h2 hup hlo hS
     go_simp
     exact HK2.out _ HS.out
    try simp only [Act.put, setIfInBounds_toArray, set_cons_succ, set_cons_zero]
    apply GM.walk_plain (by kernel_rfl) (by kernel_rfl) (fun γ => by rfl)
    ·intro γ L p wx h1 h2 hup hlo hS K hK
     obtain ⟨b0, b1, b2, b3, b4, b5, b6, b7⟩ := boxRow ((HB5.out.next hS.1).rows (u0.heap.size, .cells #[.int .i64 bf, .int .i64 bd, .int .i64 br, .int .i64 bp, .float .f64 be1, .float .f64 be2, .float .f64 be3, .slice A ncs cap] 26 (0, 0)) (by simp))
     have HK2 := Lib.hid hK
     have HS := Lib.hid hS
     clear hK h1 h2 hup hlo hS
     go_simp
     exact HK2.out _ HS.out
    try simp only [Act.put, setIfInBounds_toArray, set_cons_succ, set_cons_zero]
    apply GM.walk_plain (by kernel_rfl) (by kernel_rfl) (fun γ => by rfl)
    ·intro γ L p wx h1 h2 hup hlo hS K hK
     have hrb' : decide ((tb.size : Int) > br) = false := decide_eq_false (by omega)
     have hrb2 : ¬ br < (tb.size : Int) := by omega
     have HK2 := Lib.hid hK
     have HS := Lib.hid hS
     clear hK h1 h2 hup hlo hS
     go_simp
     exact HK2.out _ HS.out
    try simp only [Act.put, setIfInBounds_toArray, set_cons_succ, set_cons_zero]
    apply GM.walk_plain (by kernel_rfl) (by kernel_rfl) (fun γ => by rfl)
    ·intro γ L p wx h1 h2 hup hlo hS K hK
     have HK2 := Lib.hid hK
     have HS := Lib.hid hS
     clear hK h1 h2 hup hlo hS
     go_simp
     exact HK2.out _ HS.out
    try simp only [Act.put, setIfInBounds_toArray, set_cons_succ, set_cons_zero]
    refine GhostV.walk_nil (fun γ L w6 hall hx => ?_)
    have hbl := (hx.done (fun t ht => by cases ht)).1
    clear hx hall
    generalize γ 15 = v15 at *
    have HI6 := Lib.hid (HI5.out.below hbl)
    have HX6 := Lib.hid (HX5.out.below hbl)
    have HB6 := Lib.hid (HB5.out.next hbl)
    clear hbl HI5 HX5 HB5 HW5
    go_wp2_with fail
    have hl3 := (Array.getElem?_eq_some_iff.1 HB6.out.r3).1
    have hl4 := (Array.getElem?_eq_some_iff.1 HB6.out.r4).1
    have hl1 := (Array.getElem?_eq_some_iff.1 HB6.out.r1).1
    have hl2 := (Array.getElem?_eq_some_iff.1 HB6.out.r2).1
    simp only at hl1 hl2 hl3 hl4
    refine ghostK [2, 3] (fun p γ wx => Lay w6 gs gm #[.string sa, .string sb, .int .i64 ss] #[.string ta, .string tb, .int .i64 ts] #[.slice G1 m.ph.length f1, .slice G2 m.fl.length f2, .slice G3 m.lv.length f3, .slice G4 m.en.length f4] #[.slice K1 m'.ph.length g1, .slice K2 m'.fl.length g2, .slice K3 m'.lv.length g3, .slice K4 m'.en.length g4] p wx) (by kernel_rfl) (by kernel_rfl) (fun γ => Lay.start HB6.out.r3) ?_
    apply GK.walk_free (by kernel_rfl) (fun γ => by rfl) (fun p γ wx w' h hb => h.quietB hb)
    ·intro γ p wx hS K hK
     have hrow := (hS.keep gt hl2 (by omega) (by omega)).trans HB6.out.r2
     have s0 := cell_of_row _ _ 0 _ _ (0, 0) hrow
     have s1 := cell_of_row _ _ 1 _ _ (0, 0) hrow
     have s2 := cell_of_row _ _ 2 _ _ (0, 0) hrow
     simp only [List.getElem?_toArray, List.getElem?_cons_zero, List.getElem?_cons_succ] at s0 s1 s2
     clear hrow
     have HK2 := Lib.hid hK
     clear hK hS
     go_simp
     exact HK2.out _ (Below.refl _ _)
    try simp only [Act.put, setIfInBounds_toArray, set_cons_succ, set_cons_zero]
    apply GK.walk_free (by kernel_rfl) (fun γ => by rfl) (fun p γ wx w' h hb => h.quietB hb)
    ·intro γ p wx hS K hK
     obtain ⟨q0, q1, q2, q3⟩ := imRowCells ((hS.keep go hl1 (by omega) (by omega)).trans HB6.out.r1)
     have HK2 := Lib.hid hK
     clear hK hS
     go_simp
     exact HK2.out _ (Below.refl _ _)
    try simp only [Act.put, setIfInBounds_toArray, set_cons_succ, set_cons_zero]
    apply GK.walk_turn 0 rfl (by kernel_rfl) (by decide) (.inl rfl) (fun γ => by rfl)
    ·intro γ wx hS K hK
     exact wp_put 47 (.tmp 8) (.tmp 132) rfl gs #[.string ta, .string tb, .int .i64 ts] #[.string sa, .string sb, .int .i64 ss] _ rfl rfl (((hS.q0 rfl).block gs hl4).trans HB6.out.r4) (by kernel_rfl) rfl (by kernel_rfl) (fun w' hr hgr => hK undef w' (hS.step1 (Ne.symm hne) (Nat.lt_of_lt_of_le hl3 hS.le) hr.out hgr.out))
    try simp only [Act.put]
    apply GK.walk_turn 1 rfl (by kernel_rfl) (by decide) (.inr ⟨2, rfl, by kernel_rfl⟩) (fun γ => by rfl)
    ·intro γ wx hS K hK
     exact wp_put 32 (.tmp 9) (.tmp 133) rfl gm #[.slice K1 m'.ph.length g1, .slice K2 m'.fl.length g2, .slice K3 m'.lv.length g3, .slice K4 m'.en.length g4] #[.slice G1 m.ph.length f1, .slice G2 m.fl.length f2, .slice G3 m.lv.length f3, .slice G4 m.en.length f4] _ rfl rfl (hS.z2 (by decide)) (by kernel_rfl) rfl (by kernel_rfl) (fun w' hr hgr => hK undef w' (hS.step2 hr.out hgr.out))
    try simp only [Act.put]
    refine GhostV.walk_nil (fun γ L w7 hall hx => ?_)
    have hLay := hx.done (fun t ht => hall t (by simp only [List.mem_cons, List.not_mem_nil, or_false] at ht; rcases ht with rfl | rfl <;> decide))
    clear hx hall
    obtain ⟨wa, wb, l1, l2, l3, l4, l5⟩ := hLay.q2 rfl
    have hra1 := (l1.block gs hl4).trans HB6.out.r4
    have hrb1 := (l2.block gm (by have := l1.size; omega) (fun e => hne (Option.some.inj e).symm)).trans ((l1.block gm hl3).trans HB6.out.r3)
    have hrow1 := (l4.block gs (Array.getElem?_eq_some_iff.1 l3).1 (fun e => hne (Option.some.inj e))).trans l3
    have HI7 := Lib.hid (((HI6.out.below l1).stKept hra1 l2).imKept hrb1 l4)
    have HX7 := Lib.hid (((HX6.out.below l1).stPut hra1 l2).imPut hrb1 l4)
    have HB7 : Hid (Bx u0 [(gm, .cells #[.slice K1 m'.ph.length g1, .slice K2 m'.fl.length g2, .slice K3 m'.lv.length g3, .slice K4 m'.en.length g4] 32 (0, 0)), (gs, .cells #[.string ta, .string tb, .int .i64 ts] 47 (0, 0)), (u0.heap.size, .cells #[.int .i64 bf, .int .i64 bd, .int .i64 br, .int .i64 bp, .float .f64 be1, .float .f64 be2, .float .f64 be3, .slice A ncs cap] 26 (0, 0))] w7) := Lib.hid ⟨((HB6.out.below.trans (l1.mono HB6.out.below.size)).trans (below_grown l2 (by have := HB6.out.below.size; have := l1.size; omega) (fun k hk => by injection hk with hk; omega))).trans (below_grown l4 (by have := HB6.out.below.size; have := l1.size; have := l2.size; omega) (fun k hk => by injection hk with hk; omega)), by simp only [List.mem_cons, List.not_mem_nil, or_false]; rintro q (rfl | rfl | rfl); exact l5; exact hrow1; exact (hLay.keep _ (Array.getElem?_eq_some_iff.1 (HB6.out.rows (u0.heap.size, _) (by simp))).1 (by omega) (by omega)).trans (HB6.out.rows (u0.heap.size, .cells #[.int .i64 bf, .int .i64 bd, .int .i64 br, .int .i64 bp, .float .f64 be1, .float .f64 be2, .float .f64 be3, .slice A ncs cap] 26 (0, 0)) (by simp))⟩
    clear hLay l1 l2 l3 l4 l5 hra1 hrb1 hrow1 HB6 HI6 HX6
    go_wp2_with fail
    go_roundw
    case rel => exact ⟨k + 1, ⟨ta, tb, ts⟩, m', _, _, _, _, by omega, by go_num, HJ2.out, HI7.out, HX7.out, HB7.out⟩
    case measure => simp [intOf]; omega
  ·obtain rfl : k = X.length := by omega
   have hlI : ¬ (X.length : Int) < (X.length : Int) := by omega
   go_wp2_with fail
   refine (FN.out _).mono ?_
   rintro e w31 ⟨rfl, hb31⟩
   have HB31 := Lib.hid (HBR.out.next hb31)
   clear hb31 HBR
   go_wp2_with fail
   go_ret
   exact ⟨rfl, HBW.out.trans (HB31.out.below.mono HBW.out.size)⟩

theorem lawLogKeeps_walk (x y : Int) (v : Value) (ns : List Nat) (w : World) (hx : (Lit.int .u8 x).wf = true) (hy : (Lit.int .u8 y).wf = true) (hv : VV w v (u8s ns)) (hns : ∀ z ∈ ns, z < 256) (hnl : ns.length ≤ maxLen) :
    Calls Try.prog 4 #[.int .u8 x, .int .u8 y, v] w fun e w' => e = .returned (.bool true) ∧ Below w.heap.size w w' := by
  obtain ⟨n, rfl, hn⟩ := u8_nat hx
  obtain ⟨room, rfl, hr⟩ := u8_nat hy
  exact logKeeps_any n room ns v w hn hr hns hnl hv
set_option maxRecDepth 100000 in
theorem lawLogKeeps_lifted (os : Os) (started : os.Started) (H : Type) (enc : TypeId × Value → H) :
    ReturnsInHanded {} Try.checked os 4 .any (Rows.logKeepsSpec.pre6 enc Try.prog Try.f4 Rows.logKeepsRow.domain false) (Rows.logKeepsSpec.post enc Try.prog Try.f4 false true false false) := by
  refine returnsInHanded_of_change (C := Try.checked) own started (by kernel_rfl) Try.func4
    (ChangeSpec.witness6 (enc := enc) (C := Try.checked) false ⟨#[], #[.int .u8 0, .int .u8 0, .slice none 0 0], []⟩ 8 (by kernel_rfl) (by kernel_rfl) (by kernel_rfl) (by kernel_rfl)) ?_
  intro W base args ds gs before hval0 hW hcnd _
  have hval : ∀ (j : Nat) t v, Try.f4.params[j]? = some t → args[j]? = some v → Value.okWide Try.prog W .any base t v := hval0
  have hW' := hW
  obtain ⟨p, q, hA0, hV, rfl, hfz, hnd⟩ := hW
  have hA : DataW.TrodAll enc Try.prog W 0 (fun _ => true) true Try.f4.params.toList args.toList ds p := hA0
  rw [Try.params4] at hA hval
  obtain ⟨v0, vs0, d0, ds0, p0, q0, hargs, rfl, rfl, h0, r0⟩ := trodAll_cons hA
  obtain ⟨v1, vs1, d1, ds1, p1, q1, rfl, rfl, rfl, h1, r1⟩ := trodAll_cons r0
  obtain ⟨v2, vs2, d2, ds2, p2, q2, rfl, rfl, rfl, h2, r2⟩ := trodAll_cons r1
  obtain ⟨rfl, rfl, rfl⟩ := trodAll_nil r2
  obtain rfl : args = #[v0, v1, v2] := by cases args; simp_all
  obtain ⟨rfl, rfl⟩ := trodVars_none hV
  obtain ⟨x0, rfl, rfl, rfl, g0⟩ := open_int Try.underlying5 (hval 0 5 v0 rfl rfl) h0
  obtain ⟨x1, rfl, rfl, rfl, g1⟩ := open_int Try.underlying5 (hval 1 5 v1 rfl rfl) h1
  have k2 := h2
  have lt2 : ∀ x ∈ p2, x.block < W.heap.size := by obtain ⟨m, hm⟩ := k2; exact DataW.trod_lt m _ _ _ hm
  obtain ⟨a2, l2, c2, rfl⟩ := okWide_slice Try.underlying22 (hval 2 22 v2 rfl rfl)
  obtain ⟨fuel2, hf2⟩ := h2
  obtain ⟨x2, g2, n2, m2⟩ := open_u8s hf2
  clear hA0 hval0
  refine (lawLogKeeps_walk x0 x1 _ x2 W g0 g1 g2 n2 m2).mono fun e W' ⟨he, bel⟩ => ?_
  subst he
  exact ⟨_, rfl, _, _, _, [], _, [], hW', trodAll_mk1 (shut_bool Try.underlying4 _), (trodAll_cons_mk (shut_int Try.underlying5 g0) (trodAll_cons_mk (shut_int Try.underlying5 g1) (trodAll_cons_mk (Below.trod laidOut (by kernel_rfl) (of_decide_eq_true (by kernel_rfl)) k2 bel lt2) trodAll_mk0))), rfl, bel.frame _, fun h => by cases h⟩

theorem lawLogKeeps_over : Rows.logKeepsRow.holds Try.pinned (OpenSpec.ofChange Rows.logKeepsSpec) :=
  OpenClaim.holds_of_wide 4 Try.f4 rfl rfl rfl rfl rfl rfl rfl ⟨rfl, rfl, rfl, rfl, rfl⟩ rfl rfl rfl rfl rfl (by kernel_rfl) Try.func4 (by kernel_rfl)
    (of_decide_eq_true (by kernel_rfl)) (by unfold Func.isWrapper; first | (rw [if_pos (by decide +kernel)]; kernel_rfl) | (rw [if_neg (by decide +kernel)]; exact ⟨rfl, rfl⟩))
    (fun os started H enc _ => lawLogKeeps_lifted os started H enc)

theorem logKeeps_holds : Rows.LogKeepsSaid := lawLogKeeps_over
#print axioms logKeeps_holds
end Go.Proofs.Ytmonbldmgmmnbaa
