/- The law LogSurvives: behind an append that is cut at any unit the image is the one before or behind the record; recovery finds it, cut or not; the journal goes on from there. No condition. -/
import Derived.Test.YtifbkoaggjikpaaLgSurvM
import Derived.Deep.CutRange
import Derived.Deep.CutBlock
namespace Go.Proofs.Ytifbkoaggjikpaa
open Go.RowKit GhostV Bag Lg Img Go.ChangeShapes Go.WideShapes Go.ChangeAt Go.Deep

open List (setIfInBounds_toArray set_cons_succ set_cons_zero)

set_option maxRecDepth 100000 in
set_option maxHeartbeats 16000000 in
theorem logSurvives_any(n room ya za : Nat) (ns : List Nat) (vl : Value) (w : World) (hn : n < 256) (hro : room < 256) (hya : ya < 256) (hza : za < 256) (hns : ∀ z ∈ ns, z < 256) (hnl : ns.length ≤ maxLen) (hv : VV w vl (u8s ns)) :
  Calls Try.prog 5 #[.int .u8 n, vl, .agg #[.int .u8 room, .int .u8 ya, .int .u8 za]] w fun e w' => e = .returned (.bool true) ∧ Below w.heap.size w w' := by
 obtain ⟨F, hF⟩ : ∃ F, F = 2 + n % 7 := ⟨_, rfl⟩
 obtain ⟨C, hC⟩ : ∃ C, C = 1 + n / 7 % 3 := ⟨_, rfl⟩
 have hF1 : 2 ≤ F := by omega
 have hF2 : F ≤ 32 := by omega
 have hC1 : 1 ≤ C := by omega
 have hC2 : C ≤ 3 := by omega
 have FB := Lib.hid (fun wx => building10_any n room wx hn hro)
 rw [← hF, ← hC] at FB
 clear hF hC hn
 have hok : ∀ r ∈ Rc.recL F C ns (min (ns.length / 2) 60), Rc.okB (bldR (F : Int) C room) r = true := fun r hr => okB_bldR hF1 hF2 hC1 (by omega) (by omega) (Rc.recL_ok hF1 hF2 hC1 (by omega) hns _ r hr)
 have hvb : validE (bldR (F : Int) C room) = 0 := bldR_valid F C room (by omega) (by omega) hC1 (by omega) (by omega)
 have hbl : (bldR (F : Int) C room).cars.length = C := by simp [bldR, sampleD, sampleCars_length]
 have hrm : (bldR (F : Int) C room).room = 18 * (C : Int) + 24 + room := rfl
 have FR := Lib.hid (fun A cap wx (hV : VV wx vl (u8s ns)) => records_any (bldR (F : Int) C room) A cap F C rfl hbl hF1 hF2 hC1 (by omega) ns hns hnl vl 60 (by decide) wx hV)
 have hj0 := jrn_new hvb (by rw [hbl, hrm]; omega) (by rw [hrm]; omega)
 have hroom : (bldR (F : Int) C room).room ≤ 1000 := by rw [hrm]; omega
 have hXl : (Rc.recL F C ns (min (ns.length / 2) 60)).length ≤ 60 := by rw [Rc.recL_len]; omega
 generalize Rc.recL F C ns (min (ns.length / 2) 60) = X at *
 generalize bldR (F : Int) C room = b at *
 clear hns hnl hF1 hF2 hrm
 have FI := Lib.hid (fun A cap wx (hc : CarsAt wx wx.heap.size A b.cars) => initGood_any b A cap wx hc hvb)
 have HJ0 := Lib.hid hj0
 have FA := Lib.hid (fun A cap s pv fv lv ev m r (bud : Int) wx (hc : CarsAt wx wx.heap.size A b.cars) (hj : Jrn b s m) (h0 : 0 ≤ bud ∧ bud ≤ 100000) (h : ImV wx pv fv lv ev m) => by
  obtain ⟨a1, a2, a3, a4, -⟩ := jrn_small hj hroom
  exact append_any b A cap s pv fv lv ev m r bud wx (by omega) hc h ⟨by omega, by omega, by omega, by omega⟩ (by omega) (by constructor <;> omega))
 have HST := Lib.hid (fun s m r (bud : Int) (hj : Jrn b s m) (hr : Rc.okB b r = true) (h0 : 0 ≤ bud) => append_any3 hj hr h0)
 have HJC := Lib.hid (fun s m (hj : Jrn b s m) => hj.cut)
 have HSM := Lib.hid (fun s m (hj : Cut b s m) => cut_small hj hroom)
 have HRG := Lib.hid (fun s m (bud : Int) (hj : Cut b s m) (h0 : 0 ≤ bud) => recG_one hj h0)
 have HRW := Lib.hid (fun s m (hj : Cut b s m) => recG_whole hj hroom (bud := 100000) (by decide))
 have HFL := Lib.hid (fun s m (hj : Jrn b s m) => flag_set hj.good)
 have HSE := Lib.hid (fun s m (hj : Jrn b s m) => (append_step hj (flag_ok hvb) hroom (bud := 100000) (by decide)).resolve_left (fun h => by rw [flag_full] at h; exact absurd h.1 (by decide)))
 have FC := Lib.hid (fun A cap s m (bud : Int) wx (hc : CarsAt wx wx.heap.size A b.cars) (hj : Cut b s m) (h0 : 0 ≤ bud ∧ bud ≤ 100000) => by
  have := recoverGood_any b A cap s bud wx hvb hc (by constructor <;> omega) (by simp [hj.st, h0.1])
  exact this.mono fun e w' ⟨m2, h1, h2⟩ => (by
   obtain rfl := rpl_one h1 hj.rpl
   exact h2 : AppEnd wx (recG b s m bud) e w'))
 have FP := Lib.hid (fun A cap pv fv lv ev s m r wx (hc : CarsAt wx wx.heap.size A b.cars) (hj : Jrn b s m) (h : ImV wx pv fv lv ev m) (hr : Rc.okB b r = true) => refApplyGood_any b A cap pv fv lv ev m r wx hc h (by have := (jrn_small hj hroom).2.2.2.1; omega) hj.good hr)
 have FY := Lib.hid (fun A cap s m wx (hc : CarsAt wx wx.heap.size A b.cars) (hj : Cut b s m) => by
  have := replay_any b A cap s wx hvb hc (cut_small hj hroom).2.2.2.2.2.2
  exact this.mono fun e w' ⟨m2, pv, fv, lv, ev, h1, h2, h3, h4⟩ => (by
   obtain rfl := rpl_one h2 hj.rpl
   exact ⟨pv, fv, lv, ev, h1, h3, h4⟩ : ∃ pv fv lv ev, e = Ending.returned (.agg #[pv, fv, lv, ev]) ∧ IOwn w' wx.heap.size pv fv lv ev m ∧ Below wx.heap.size wx w'))
 have FE := Lib.hid (fun pv fv lv ev pv' fv' lv' ev' s m wx (hj : Cut b s m) (ha : ImV wx pv fv lv ev m) (hb : ImV wx pv' fv' lv' ev' m) => by
  obtain ⟨a1, a2, a3, a4, -⟩ := cut_small hj hroom
  have := refSame10_any m m pv fv lv ev pv' fv' lv' ev' wx ha hb (by omega) (by omega) (by omega) (by omega) (by omega) (by omega) (by omega) (by omega)
  rw [show imEq m m = true from (imEq_iff _ _).2 rfl] at this
  exact this)
 have FN := Lib.hid (fun wx => sane10_any wx)
 have HOK := Lib.hid (fun k (hk : k < X.length) => hok X[k] (List.getElem_mem hk))
 clear hok hvb hj0 hroom hbl hC1 hC2 hro
 generalize Img.init b.cars.length = i0 at *
 generalize hJB : Jrn b = JB at *
 generalize hOB : Rc.okB b = OB at *
 generalize hAB : appendF b = AB at *
 generalize hCB : Cut b = CB at *
 generalize hRB : recG b = RB at *
 generalize hFB : fullB b = FUB at *
 clear hJB hOB hAB hFB hCB hRB
 obtain ⟨bf, bd, br, bp, be1, be2, be3, cs⟩ := b
 simp only [BldD.agg] at *
 generalize hncs : cs.length = ncs at *
 have HV := Lib.hid hv
 clear hv hncs
 have HB0 := Lib.hid (bxs1 w (.cells #[.int .u8 room, .int .u8 ya, .int .u8 za] 54))
 go_enter Try.func5, Try.ntmps5
 go_wp2_with fail
 refine (FB.out _).mono ?_
 rintro e u0 ⟨hb0, A, cap, rfl, hcars⟩
 have HC := Lib.hid hcars
 have HBW := Lib.hid (HB0.out.next hb0)
 have hxw : w.heap.size < u0.heap.size := (Array.getElem?_eq_some_iff.1 HBW.out.r0).1
 clear hcars hb0 HB0
 have HBZ : Hid (Bx u0 [(w.heap.size, .cells #[.int .u8 room, .int .u8 ya, .int .u8 za] 54 (0, 0))] u0) := Lib.hid ⟨Below.refl _ _, HBW.out.rows⟩
 have HCX := Lib.hid (fun wx (hb : Below u0.heap.size u0 wx) => show CarsAt wx wx.heap.size A cs from (HC.out.below hb).more hb.size)
 have HVX := Lib.hid (fun wx (hb : Below u0.heap.size u0 wx) => (HV.out.below HBW.out.below).below hb)
 clear HV HC
 go_wp2_with (with_reducible show wpList _ _ _ (Oper.mk _ (.store 26 _ _) _ _ _ _ :: _) _ _; refine Hid.out ?_)
 refine Lib.hid ?_
 refine wpList_put rfl 26 _ _ rfl u0.heap.size #[.int .i64 bf, .int .i64 bd, .int .i64 br, .int .i64 bp, .float .f64 be1, .float .f64 be2, .float .f64 be3, .slice A ncs cap] _ 26 rfl rfl (heap_alloc_new u0 _) (by kernel_rfl) rfl (by kernel_rfl) ?_
 intro w1 hr1 hg1
 have HB1 : Hid (Bx u0 [(u0.heap.size, .cells #[.int .i64 bf, .int .i64 bd, .int .i64 br, .int .i64 bp, .float .f64 be1, .float .f64 be2, .float .f64 be3, .slice A ncs cap] 26 (0, 0)), (w.heap.size, .cells #[.int .u8 room, .int .u8 ya, .int .u8 za] 54 (0, 0))] w1) := Lib.hid ((HBZ.out.make (heap_alloc_new u0 (.cells #[.int .i64 0, .int .i64 0, .int .i64 0, .int .i64 0, .float .f64 0, .float .f64 0, .float .f64 0, .slice none 0 0] 26)) ((Below.refl u0.heap.size u0).alloc (Nat.le_refl _) _)).put HBZ.out.below.size hg1.out hr1.out (by simp only [List.mem_cons, List.not_mem_nil, or_false]; rintro p (rfl | rfl) <;> simp <;> omega))
 clear hr1 hg1 HBZ
 have c0_0 : w1.cell? ⟨u0.heap.size, 0, none⟩ = some (.int .i64 bf) := cell_of_row _ _ _ _ _ (0, 0) HB1.out.r0
 have c0_1 : w1.cell? ⟨u0.heap.size, 1, none⟩ = some (.int .i64 bd) := cell_of_row _ _ _ _ _ (0, 0) HB1.out.r0
 have c0_2 : w1.cell? ⟨u0.heap.size, 2, none⟩ = some (.int .i64 br) := cell_of_row _ _ _ _ _ (0, 0) HB1.out.r0
 have c0_3 : w1.cell? ⟨u0.heap.size, 3, none⟩ = some (.int .i64 bp) := cell_of_row _ _ _ _ _ (0, 0) HB1.out.r0
 have c0_4 : w1.cell? ⟨u0.heap.size, 4, none⟩ = some (.float .f64 be1) := cell_of_row _ _ _ _ _ (0, 0) HB1.out.r0
 have c0_5 : w1.cell? ⟨u0.heap.size, 5, none⟩ = some (.float .f64 be2) := cell_of_row _ _ _ _ _ (0, 0) HB1.out.r0
 have c0_6 : w1.cell? ⟨u0.heap.size, 6, none⟩ = some (.float .f64 be3) := cell_of_row _ _ _ _ _ (0, 0) HB1.out.r0
 have c0_7 : w1.cell? ⟨u0.heap.size, 7, none⟩ = some (.slice A ncs cap) := cell_of_row _ _ _ _ _ (0, 0) HB1.out.r0
 have c1_0 : w1.cell? ⟨w.heap.size, 0, none⟩ = some (.int .u8 room) := cell_of_row _ _ _ _ _ (0, 0) HB1.out.r1
 have c1_1 : w1.cell? ⟨w.heap.size, 1, none⟩ = some (.int .u8 ya) := cell_of_row _ _ _ _ _ (0, 0) HB1.out.r1
 have c1_2 : w1.cell? ⟨w.heap.size, 2, none⟩ = some (.int .u8 za) := cell_of_row _ _ _ _ _ (0, 0) HB1.out.r1
 go_wp2_with fail
 refine (FI.out A cap _ (HCX.out _ HB1.out.below)).mono ?_
 rintro e w2 ⟨pv, fv, lv, ev, rfl, hI0, hb2⟩
 have HB2 := Lib.hid (HB1.out.next hb2)
 clear c0_0 c0_1 c0_2 c0_3 c0_4 c0_5 c0_6 c0_7 c1_0 c1_1 c1_2 hb2 HB1
 obtain ⟨D1, d1, rfl⟩ := own_slice hI0.p
 obtain ⟨D2, d2, rfl⟩ := own_slice hI0.f
 obtain ⟨D3, d3, rfl⟩ := own_slice hI0.l
 obtain ⟨D4, d4, rfl⟩ := own_slice hI0.e
 have HIq := Lib.hid hI0
 clear hI0
 have hl2 : u0.heap.size < w2.heap.size := (Array.getElem?_eq_some_iff.1 HB2.out.r0).1
 have hl3 : w.heap.size < w2.heap.size := by omega
 go_wp2_with (with_reducible show wpList _ _ _ (Oper.mk _ (.store 47 _ _) _ _ _ _ :: _) _ _; refine Hid.out ?_)
 refine Lib.hid ?_
 refine wpList_put rfl 47 _ _ rfl w2.heap.size #[.string ⟨#[]⟩, .string ⟨#[]⟩, .int .i64 0] _ 47 rfl rfl (heap_alloc2_old w2 _ _) (by kernel_rfl) rfl (by kernel_rfl) ?_
 intro wb hrb hgb
 have hbdb : Below w2.heap.size w2 wb := (((Below.refl w2.heap.size w2).alloc (Nat.le_refl _) _).alloc (by simp) _).grown hgb.out (by simp; omega) (fun k hk => by injection hk with hk; omega)
 have hrmb := (hgb.out.block (w2.heap.size + 1) (by simp) (by simp)).trans (heap_alloc2_new w2 _ _)
 go_wp2_with (with_reducible show wpList _ _ _ (Oper.mk _ (.store 32 _ _) _ _ _ _ :: _) _ _; refine Hid.out ?_)
 refine Lib.hid ?_
 refine wpList_put rfl 32 _ _ rfl (w2.heap.size + 1) #[.slice D1 i0.ph.length d1, .slice D2 i0.fl.length d2, .slice D3 i0.lv.length d3, .slice D4 i0.en.length d4] _ 32 rfl rfl hrmb (by kernel_rfl) rfl (by kernel_rfl) ?_
 intro wc hrc hgc
 have hbdc : Below w2.heap.size w2 wc := hbdb.grown hgc.out hbdb.size (fun k hk => by injection hk with hk; omega)
 have hrsc := (hgc.out.block w2.heap.size ((Array.getElem?_eq_some_iff.1 hrb.out).1) (by simp)).trans hrb.out
 have HI2 := Lib.hid ((HIq.out.below hbdc).mono (Nat.zero_le _))
 have lwa : u0.heap.size < w2.heap.size + 1 := by omega
 have HBc : Hid (Bx u0 [(w2.heap.size + 1, .cells #[.slice D1 i0.ph.length d1, .slice D2 i0.fl.length d2, .slice D3 i0.lv.length d3, .slice D4 i0.en.length d4] 32 (0, 0)), (w2.heap.size, .cells #[.string ⟨#[]⟩, .string ⟨#[]⟩, .int .i64 0] 47 (0, 0)), (u0.heap.size, .cells #[.int .i64 bf, .int .i64 bd, .int .i64 br, .int .i64 bp, .float .f64 be1, .float .f64 be2, .float .f64 be3, .slice A ncs cap] 26 (0, 0)), (w.heap.size, .cells #[.int .u8 room, .int .u8 ya, .int .u8 za] 54 (0, 0))] wc) := Lib.hid ⟨HB2.out.below.trans (hbdc.mono HB2.out.below.size), by simp only [List.mem_cons, List.not_mem_nil, or_false]; rintro q (rfl | rfl | rfl | rfl); exact hrc.out; exact hrsc; exact (hbdc.block _ hl2).trans HB2.out.r0; exact (hbdc.block _ hl3).trans HB2.out.r1⟩
 have hne : w2.heap.size ≠ w2.heap.size + 1 := by omega
 generalize w2.heap.size + 1 = gm at *
 generalize w2.heap.size = gs at *
 rename u0.heap.size < gm => hgm1
 rename u0.heap.size < gs => hgs1
 clear hrb hgb hbdb hrmb hrc hgc hbdc hrsc HIq HB2 hl3
 have c2_0 : wc.cell? ⟨u0.heap.size, 0, none⟩ = some (.int .i64 bf) := cell_of_row _ _ _ _ _ (0, 0) HBc.out.r2
 have c2_1 : wc.cell? ⟨u0.heap.size, 1, none⟩ = some (.int .i64 bd) := cell_of_row _ _ _ _ _ (0, 0) HBc.out.r2
 have c2_2 : wc.cell? ⟨u0.heap.size, 2, none⟩ = some (.int .i64 br) := cell_of_row _ _ _ _ _ (0, 0) HBc.out.r2
 have c2_3 : wc.cell? ⟨u0.heap.size, 3, none⟩ = some (.int .i64 bp) := cell_of_row _ _ _ _ _ (0, 0) HBc.out.r2
 have c2_4 : wc.cell? ⟨u0.heap.size, 4, none⟩ = some (.float .f64 be1) := cell_of_row _ _ _ _ _ (0, 0) HBc.out.r2
 have c2_5 : wc.cell? ⟨u0.heap.size, 5, none⟩ = some (.float .f64 be2) := cell_of_row _ _ _ _ _ (0, 0) HBc.out.r2
 have c2_6 : wc.cell? ⟨u0.heap.size, 6, none⟩ = some (.float .f64 be3) := cell_of_row _ _ _ _ _ (0, 0) HBc.out.r2
 have c2_7 : wc.cell? ⟨u0.heap.size, 7, none⟩ = some (.slice A ncs cap) := cell_of_row _ _ _ _ _ (0, 0) HBc.out.r2
 have c3_0 : wc.cell? ⟨w.heap.size, 0, none⟩ = some (.int .u8 room) := cell_of_row _ _ _ _ _ (0, 0) HBc.out.r3
 have c3_1 : wc.cell? ⟨w.heap.size, 1, none⟩ = some (.int .u8 ya) := cell_of_row _ _ _ _ _ (0, 0) HBc.out.r3
 have c3_2 : wc.cell? ⟨w.heap.size, 2, none⟩ = some (.int .u8 za) := cell_of_row _ _ _ _ _ (0, 0) HBc.out.r3
 go_wp2_with fail
 refine (FR.out A cap _ (HVX.out _ HBc.out.below)).mono ?_
 rintro e w3 ⟨u, rfl, ⟨xA, xc, rfl, hx⟩, hb3⟩
 have HI3 := Lib.hid (HI2.out.below hb3)
 have HX := Lib.hid hx
 clear hx HI2
 have HB3 := Lib.hid (HBc.out.next hb3)
 clear c2_0 c2_1 c2_2 c2_3 c2_4 c2_5 c2_6 c2_7 c3_0 c3_1 c3_2 hb3 HBc
 have c3_0 : w3.cell? ⟨w.heap.size, 0, none⟩ = some (.int .u8 room) := cell_of_row _ _ _ _ _ (0, 0) HB3.out.r3
 have c3_1 : w3.cell? ⟨w.heap.size, 1, none⟩ = some (.int .u8 ya) := cell_of_row _ _ _ _ _ (0, 0) HB3.out.r3
 have c3_2 : w3.cell? ⟨w.heap.size, 2, none⟩ = some (.int .u8 za) := cell_of_row _ _ _ _ _ (0, 0) HB3.out.r3
 have hw3 : IntKind.i64.wrap ((ya : Int) * 3) = (ya : Int) * 3 := by rw [IntKind.wrap_i64]; omega
 go_wp2_with fail
 clear c3_0 c3_1 c3_2
 clear FR FI FB HVX hw3
 go_loopw [11, 12] (fun vb vi wr => ∃ (k : Nat) (bu : Int) (s : St) (m : Img) (pv fv lv ev : Value), k ≤ X.length ∧ 0 ≤ bu ∧ bu ≤ 100000 ∧ vb = .int .i64 bu ∧ vi = .int .i64 k ∧ JB s m ∧ IOwn wr 0 pv fv lv ev m ∧ RAt wr xA X ∧ Bx u0 [(gm, .cells #[pv, fv, lv, ev] 32 (0, 0)), (gs, .cells #[.string s.a, .string s.b, .int .i64 s.sel] 47 (0, 0)), (u0.heap.size, .cells #[.int .i64 bf, .int .i64 bd, .int .i64 br, .int .i64 bp, .float .f64 be1, .float .f64 be2, .float .f64 be3, .slice A ncs cap] 26 (0, 0)), (w.heap.size, .cells #[.int .u8 room, .int .u8 ya, .int .u8 za] 54 (0, 0))] wr) (fun _ vi _ => X.length - (intOf vi).toNat)
 case atStart => exact ⟨0, (ya : Int) * 3, St.zero, i0, _, _, _, _, Nat.zero_le _, by omega, by omega, rfl, rfl, HJ0.out, HI3.out, HX.out, HB3.out⟩
 case round =>
  obtain ⟨k, bu, s, m, pv, fv, lv, ev, hk, hbu0, hbu1, rfl, rfl, hj, hI, hx, hbr⟩ := hrel
  obtain ⟨G1, f1, rfl⟩ := own_slice hI.p
  obtain ⟨G2, f2, rfl⟩ := own_slice hI.f
  obtain ⟨G3, f3, rfl⟩ := own_slice hI.l
  obtain ⟨G4, f4, rfl⟩ := own_slice hI.e
  have HJ := Lib.hid hj
  have HI := Lib.hid hI
  have HXR := Lib.hid hx
  obtain ⟨sa, sb, ss⟩ := s
  simp only at hbr
  have HBR := Lib.hid hbr
  clear hj hI hx hbr HI3 HX HB3
  have hgm : gm < wr.heap.size := (Array.getElem?_eq_some_iff.1 HBR.out.r0).1
  have hgs : gs < wr.heap.size := (Array.getElem?_eq_some_iff.1 HBR.out.r1).1
  have hgb0 : u0.heap.size < wr.heap.size := (Array.getElem?_eq_some_iff.1 HBR.out.r2).1
  by_cases hlt : k < X.length
  ·have hlI : (k : Int) < (X.length : Int) := by omega
   have hlB : decide ((k : Int) < (X.length : Int)) = true := decide_eq_true hlI
   obtain ⟨bb, off, rfl, hbb, c0, c1, c2, c3, c4⟩ := HXR.out.at_ hlt
   have hok := HOK.out k hlt
   generalize X[k] = x at *
   have hst := HST.out ⟨sa, sb, ss⟩ m x bu HJ.out hok hbu0
   have FAX := Lib.hid (fun pv fv lv ev wx hc h => FA.out A cap ⟨sa, sb, ss⟩ pv fv lv ev m x bu wx hc HJ.out ⟨hbu0, hbu1⟩ h)
   have FPX := Lib.hid (fun pv fv lv ev wx hc h => FP.out A cap pv fv lv ev ⟨sa, sb, ss⟩ m x wx hc HJ.out h hok)
   obtain ⟨R, hR⟩ : ∃ R, AB ⟨sa, sb, ss⟩ m x bu = R := ⟨_, rfl⟩
   rw [hR] at FAX hst
   clear hR hok
   obtain ⟨⟨ta, tb, ts⟩, m', nn, er⟩ := R
   generalize hM2 : applyM m x = m2 at *
   clear hM2
   obtain ⟨x1, x2, x3, x4, x5⟩ := x
   simp only [Rc.agg, St.agg] at FAX FPX
   simp only at c0 c1 c2 c3 c4
   have HCASE := Lib.hid hst
   clear hst
   have HRC := Lib.hid (fun (wx : World) (h : Below wr.heap.size wr wx) => (⟨(h.cell (p := ⟨bb, _, none⟩) hbb).trans c0, (h.cell (p := ⟨bb, _, none⟩) hbb).trans c1, (h.cell (p := ⟨bb, _, none⟩) hbb).trans c2, (h.cell (p := ⟨bb, _, none⟩) hbb).trans c3, (h.cell (p := ⟨bb, _, none⟩) hbb).trans c4⟩ : wx.cell? ⟨bb, off + k * 5, none⟩ = some (.int .i64 x1) ∧ wx.cell? ⟨bb, off + k * 5 + 1, none⟩ = some (.int .i64 x2) ∧ wx.cell? ⟨bb, off + k * 5 + 2, none⟩ = some (.int .i64 x3) ∧ wx.cell? ⟨bb, off + k * 5 + 3, none⟩ = some (.int .i64 x4) ∧ wx.cell? ⟨bb, off + k * 5 + 4, none⟩ = some (.int .i64 x5)))
   clear c0 c1 c2 c3 c4
   go_wp2_with fail
   refine ghostM [8, 9, 16, 17] (fun p γ L wx => St2 wr #[.string ta, .string tb, .int .i64 ts] m' nn er p (γ 8) (γ 9) (γ 11) (γ 14) (γ 15) (L 11) (L 14) (L 15) wx) (by kernel_rfl) (by kernel_rfl) (fun γ => St2.start) ?_
   apply GM.walk_plain (by kernel_rfl) (by kernel_rfl) (fun γ => by rfl)
   ·intro γ L p wx h1 h2 hup hlo hS K hK
    have HXx := HBR.out.next hS.bl
    obtain ⟨b0, b1, b2, b3, b4, b5, b6, b7⟩ := boxRow HXx.r2
    clear HXx
    have HK2 := Lib.hid hK
    have HS := Lib.hid hS
    clear hK h1 h2 hup hlo hS
    go_simp
    exact HK2.out _ HS.out
   try simp only [Act.put, setIfInBounds_toArray, set_cons_succ, set_cons_zero]
   apply GM.walk_plain (by kernel_rfl) (by kernel_rfl) (fun γ => by rfl)
   ·intro γ L p wx h1 h2 hup hlo hS K hK
    have HXx := HBR.out.next hS.bl
    have s0 := cell_of_row _ _ 0 _ _ (0, 0) HXx.r1
    have s1 := cell_of_row _ _ 1 _ _ (0, 0) HXx.r1
    have s2 := cell_of_row _ _ 2 _ _ (0, 0) HXx.r1
    simp only [List.getElem?_toArray, List.getElem?_cons_zero, List.getElem?_cons_succ] at s0 s1 s2
    clear HXx
    have HK2 := Lib.hid hK
    have HS := Lib.hid hS
    clear hK h1 h2 hup hlo hS
    go_simp
    exact HK2.out _ HS.out
   try simp only [Act.put, setIfInBounds_toArray, set_cons_succ, set_cons_zero]
   apply GM.walk_plain (by kernel_rfl) (by kernel_rfl) (fun γ => by rfl)
   ·intro γ L p wx h1 h2 hup hlo hS K hK
    obtain ⟨q0, q1, q2, q3⟩ := imRowCells (HBR.out.next hS.bl).r0
    have HK2 := Lib.hid hK
    have HS := Lib.hid hS
    clear hK h1 h2 hup hlo hS
    go_simp
    exact HK2.out _ HS.out
   try simp only [Act.put, setIfInBounds_toArray, set_cons_succ, set_cons_zero]
   apply GM.walk_plain (by kernel_rfl) (by kernel_rfl) (fun γ => by rfl)
   ·intro γ L p wx h1 h2 hup hlo hS K hK
    have HK2 := Lib.hid hK
    have HS := Lib.hid hS
    clear hK h1 h2 hup hlo hS
    go_simp
    exact HK2.out _ HS.out
   try simp only [Act.put, setIfInBounds_toArray, set_cons_succ, set_cons_zero]
   apply GM.walk_plain (by kernel_rfl) (by kernel_rfl) (fun γ => by rfl)
   ·intro γ L p wx h1 h2 hup hlo hS K hK
    have HK2 := Lib.hid hK
    have HS := Lib.hid hS
    clear hK h1 h2 hup hlo hS
    go_simp
    exact HK2.out _ HS.out
   try simp only [Act.put, setIfInBounds_toArray, set_cons_succ, set_cons_zero]
   apply GM.walk_plain (by kernel_rfl) (by kernel_rfl) (fun γ => by rfl)
   ·intro γ L p wx h1 h2 hup hlo hS K hK
    obtain ⟨c0, c1, c2, c3, c4⟩ := HRC.out wx hS.bl
    have HK2 := Lib.hid hK
    have HS := Lib.hid hS
    clear hK h1 h2 hup hlo hS
    go_simp
    exact HK2.out _ HS.out
   try simp only [Act.put, setIfInBounds_toArray, set_cons_succ, set_cons_zero]
   apply GM.walk_plain (by kernel_rfl) (by kernel_rfl) (fun γ => by rfl)
   ·intro γ L p wx h1 h2 hup hlo hS K hK
    obtain ⟨c0, c1, c2, c3, c4⟩ := HRC.out wx hS.bl
    have HK2 := Lib.hid hK
    have HS := Lib.hid hS
    clear hK h1 h2 hup hlo hS
    go_simp
    exact HK2.out _ HS.out
   try simp only [Act.put, setIfInBounds_toArray, set_cons_succ, set_cons_zero]
   apply GM.walk_plain (by kernel_rfl) (by kernel_rfl) (fun γ => by rfl)
   ·intro γ L p wx h1 h2 hup hlo hS K hK
    have HK2 := Lib.hid hK
    have HS := Lib.hid hS
    clear hK h1 h2 hup hlo hS
    go_simp
    exact HK2.out _ HS.out
   try simp only [Act.put, setIfInBounds_toArray, set_cons_succ, set_cons_zero]
   apply GM.walk_turn 0 rfl (by kernel_rfl) (by decide) (.inl rfl) (fun γ => by rfl)
   ·intro γ L wx h1 h2 hS K hK
    have hbl := hS.bl
    have HK2 := Lib.hid hK
    have HS := Lib.hid hS
    clear hK h1 h2 hS
    go_simp
    go_at_call 16
    refine (FAX.out _ _ _ _ wx (HCX.out _ (HBR.out.next hbl).below) (HI.out.below hbl).view).mono ?_
    rintro e w' ⟨pv', fv', lv', ev', rfl, hI', hb'⟩
    exact HK2.out _ _ (HS.out.step1 hI' hb')
   try simp only [Act.put, setIfInBounds_toArray, set_cons_succ, set_cons_zero]
   apply GM.walk_turn 1 rfl (by kernel_rfl) (by decide) (.inr ⟨8, rfl, by kernel_rfl⟩) (fun γ => by rfl)
   ·intro γ L wx h1 h2 hS K hK
    have HK2 := Lib.hid hK
    have HS := Lib.hid hS
    clear hK h1 h2 hS
    go_simp
    exact HK2.out (γ 8) _ HS.out.step2
   try simp only [Act.put, setIfInBounds_toArray, set_cons_succ, set_cons_zero]
   apply GM.walk_plain (by kernel_rfl) (by kernel_rfl) (fun γ => by rfl)
   ·intro γ L p wx h1 h2 hup hlo hS K hK
    obtain ⟨pv', fv', lv', ev', hy', -, -, -⟩ := hS.tup (by have := hlo 1 9 rfl (h2 9 (by kernel_rfl)); omega)
    have HK2 := Lib.hid hK
    have HS := Lib.hid hS
    clear hK h1 h2 hup hlo hS
    rw [hy'] at HK2 ⊢
    clear hy'
    go_simp
    exact HK2.out _ HS.out
   try simp only [Act.put, setIfInBounds_toArray, set_cons_succ, set_cons_zero]
   apply GM.walk_ghost (by kernel_rfl) (by kernel_rfl) (fun γ => by rfl)
   ·intro γ L p wx h1 h2 hup hlo hS K hK
    have hp2 := hlo 1 9 rfl (h2 9 (by kernel_rfl))
    have hp3 := hup 3 17 rfl (by kernel_rfl)
    obtain ⟨pv', fv', lv', ev', hy', -, hI', hx'⟩ := hS.tup (by omega)
    have HK2 := Lib.hid hK
    have HS := Lib.hid (hS.ex (by omega) h1 (by omega) hI' hx')
    rw [hy'] at HK2 ⊢
    clear hK h1 h2 hS hy' hx' hI' hup hlo hp2 hp3
    go_simp
    exact HK2.out (.agg #[pv', fv', lv', ev']) _ HS.out
   try simp only [Act.put, setIfInBounds_toArray, set_cons_succ, set_cons_zero]
   apply GM.walk_plain (by kernel_rfl) (by kernel_rfl) (fun γ => by rfl)
   ·intro γ L p wx h1 h2 hup hlo hS K hK
    obtain ⟨pv', fv', lv', ev', hy', -, -, -⟩ := hS.tup (by have := hlo 1 9 rfl (h2 9 (by kernel_rfl)); omega)
    have HK2 := Lib.hid hK
    have HS := Lib.hid hS
    clear hK h1 h2 hup hlo hS
    rw [hy'] at HK2 ⊢
    clear hy'
    go_simp
    exact HK2.out _ HS.out
   try simp only [Act.put, setIfInBounds_toArray, set_cons_succ, set_cons_zero]
   apply GM.walk_plain (by kernel_rfl) (by kernel_rfl) (fun γ => by rfl)
   ·intro γ L p wx h1 h2 hup hlo hS K hK
    obtain ⟨pv', fv', lv', ev', hy', -, -, -⟩ := hS.tup (by have := hlo 1 9 rfl (h2 9 (by kernel_rfl)); omega)
    have HK2 := Lib.hid hK
    have HS := Lib.hid hS
    clear hK h1 h2 hup hlo hS
    rw [hy'] at HK2 ⊢
    clear hy'
    go_simp
    exact HK2.out _ HS.out
   try simp only [Act.put, setIfInBounds_toArray, set_cons_succ, set_cons_zero]
   apply GM.walk_ghost (by kernel_rfl) (by kernel_rfl) (fun γ => by rfl)
   ·intro γ L p wx h1 h2 hup hlo hS K hK
    have HK2 := Lib.hid hK
    have HS := Lib.hid hS
    have HH := Lib.hid h1
    clear hK h1 h2 hS hup hlo
    go_simp
    exact HK2.out _ _ (HS.out.alloc1 HH.out rfl)
   try simp only [Act.put, setIfInBounds_toArray, set_cons_succ, set_cons_zero]
   apply GM.walk_ghost (by kernel_rfl) (by kernel_rfl) (fun γ => by rfl)
   ·intro γ L p wx h1 h2 hup hlo hS K hK
    have HK2 := Lib.hid hK
    have HS := Lib.hid hS
    have HH := Lib.hid h1
    clear hK h1 h2 hS hup hlo
    go_simp
    exact HK2.out _ _ (HS.out.alloc2 HH.out rfl)
   try simp only [Act.put, setIfInBounds_toArray, set_cons_succ, set_cons_zero]
   apply GM.walk_turn 2 rfl (by kernel_rfl) (by decide) (.inr ⟨9, rfl, by kernel_rfl⟩) (fun γ => by rfl)
   ·intro γ L wx h1 h2 hS K hK
    obtain ⟨g, cs', hu, hge, hr0, hcs, -⟩ := hS.a1 (h2 14 (by kernel_rfl))
    exact wp_put 47 (.tmp 13) (.tmp 62) rfl g #[.string ta, .string tb, .int .i64 ts] _ _ hu rfl hr0 (by kernel_rfl) hcs (by kernel_rfl) (fun w' hr hgr => hK undef w' (hS.step3 (h2 14 (by kernel_rfl)) hu hge hr0 rfl hr.out hgr.out))
   try simp only [Act.put]
   apply GM.walk_turn 3 rfl (by kernel_rfl) (by decide) (.inr ⟨16, rfl, by kernel_rfl⟩) (fun γ => by rfl)
   ·intro γ L wx h1 h2 hS K hK
    obtain ⟨g, cs', hu, hge, hr0, hcs⟩ := hS.a2 (h2 15 (by kernel_rfl))
    obtain ⟨pv', fv', lv', ev', hI', hx', hy', hz', -⟩ := hS.c (by decide)
    have hz' := hz' (h2 11 (by kernel_rfl))
    exact wp_put 32 (.tmp 14) (.tmp 63) rfl g #[pv', fv', lv', ev'] _ _ hu hz' hr0 (by kernel_rfl) hcs (one4 hI') (fun w' hr hgr => hK undef w' (hS.step4 (h2 15 (by kernel_rfl)) (h2 11 (by kernel_rfl)) hu hge hr0 hI' hx' (hy' (by decide)) hz' hr.out hgr.out))
   try simp only [Act.put]
   apply GM.walk_plain (by kernel_rfl) (by kernel_rfl) (fun γ => by rfl)
   ·intro γ L p wx h1 h2 hup hlo hS K hK
    have HK2 := Lib.hid hK
    have HS := Lib.hid hS
    clear hK h1 h2 hup hlo hS
    go_simp
    exact HK2.out _ HS.out
   try simp only [Act.put, setIfInBounds_toArray, set_cons_succ, set_cons_zero]
   apply GM.walk_plain (by kernel_rfl) (by kernel_rfl) (fun γ => by rfl)
   ·intro γ L p wx h1 h2 hup hlo hS K hK
    have HK2 := Lib.hid hK
    have HS := Lib.hid hS
    clear hK h1 h2 hup hlo hS
    go_simp
    exact HK2.out _ HS.out
   try simp only [Act.put, setIfInBounds_toArray, set_cons_succ, set_cons_zero]
   refine GhostV.walk_nil (fun γ L w4 hall hx => ?_)
   have hSt : St2 wr #[.string ta, .string tb, .int .i64 ts] m' nn er 4 (γ 8) (γ 9) (γ 11) (γ 14) (γ 15) (L 11) (L 14) (L 15) w4 := hx.done (fun t ht => hall t (by simp only [List.mem_cons, List.not_mem_nil, or_false] at ht; rcases ht with rfl | rfl | rfl | rfl <;> decide))
   have hl3 : L 14 = true := hall 14 (by decide)
   clear hx hall
   obtain ⟨pv', fv', lv', ev', hI', -, -, -, hrow0⟩ := hSt.c (by decide)
   obtain ⟨go, hu2, hge2, hrow2⟩ := hrow0 (by decide)
   obtain ⟨gt, cs1, hu1, hge1, hrow1, -, hcs1⟩ := hSt.a1 hl3
   obtain rfl := hcs1 (by decide)
   have hbl := hSt.bl
   clear hSt hrow0 hcs1 hl3
   generalize γ 14 = v14 at *
   generalize γ 15 = v15 at *
   subst hu1 hu2
   generalize γ 8 = v8 at *
   generalize γ 9 = v9 at *
   generalize γ 11 = v11 at *
   obtain ⟨K1, g1, rfl⟩ := own_slice hI'.p
   obtain ⟨K2, g2, rfl⟩ := own_slice hI'.f
   obtain ⟨K3, g3, rfl⟩ := own_slice hI'.l
   obtain ⟨K4, g4, rfl⟩ := own_slice hI'.e
   have hne2 : gt ≠ go := fun e => by subst e; rw [hrow1] at hrow2; injection hrow2 with q; injection q with _ q _; exact absurd q (by decide)
   have HI4 := Lib.hid (hI'.mono (Nat.zero_le _))
   have HM4 := Lib.hid (HI.out.below hbl)
   have HX4 := Lib.hid (HXR.out.below hbl)
   have HB4 : Hid (Bx u0 [(go, .cells #[.slice K1 m'.ph.length g1, .slice K2 m'.fl.length g2, .slice K3 m'.lv.length g3, .slice K4 m'.en.length g4] 32 (0, 0)), (gt, .cells #[.string ta, .string tb, .int .i64 ts] 47 (0, 0)), (gm, .cells #[.slice G1 m.ph.length f1, .slice G2 m.fl.length f2, .slice G3 m.lv.length f3, .slice G4 m.en.length f4] 32 (0, 0)), (gs, .cells #[.string sa, .string sb, .int .i64 ss] 47 (0, 0)), (u0.heap.size, .cells #[.int .i64 bf, .int .i64 bd, .int .i64 br, .int .i64 bp, .float .f64 be1, .float .f64 be2, .float .f64 be3, .slice A ncs cap] 26 (0, 0)), (w.heap.size, .cells #[.int .u8 room, .int .u8 ya, .int .u8 za] 54 (0, 0))] w4) := Lib.hid ⟨(HBR.out.next hbl).below, by simp only [List.mem_cons, List.not_mem_nil, or_false]; rintro q (rfl | rfl | rfl | rfl | rfl | rfl); exact hrow2; exact hrow1; exact (HBR.out.next hbl).r0; exact (HBR.out.next hbl).r1; exact (HBR.out.next hbl).r2; exact (HBR.out.next hbl).r3⟩
   have gl1 : gm < go := by omega
   have gl2 : gs < go := by omega
   have gl3 : gm < gt := by omega
   have gl4 : gs < gt := by omega
   have HRC4 := Lib.hid (fun wx (h : Below w4.heap.size w4 wx) => HRC.out wx (hbl.trans (h.mono hbl.size)))
   clear hI' hrow1 hrow2 hbl HI HXR HBR HRC FAX
   rcases HCASE.out with ⟨-, hres⟩ | ⟨-, s2, n2, hres, hj2, hn0, hn1⟩ | ⟨-, s2, hres, hcut⟩
   ·injection hres with q1 q2
    injection q2 with q2 q3
    injection q3 with q3 q4
    subst q4
    clear q1 q2 q3 FC FP FY FE HST HCASE
    go_wp2_with fail
    go_roundw
    case rel => exact ⟨k + 1, bu, ⟨sa, sb, ss⟩, m, _, _, _, _, by omega, hbu0, hbu1, rfl, by go_num, HJ.out, HM4.out, HX4.out, HB4.out.less (by simp only [List.mem_cons, List.not_mem_nil, or_false]; rintro p (rfl | rfl | rfl | rfl) <;> simp)⟩
    case measure => simp [intOf]; omega
   ·injection hres with q1 q2
    injection q2 with q2 q3
    injection q3 with q3 q4
    subst q1 q2 q3 q4
    have HJ2 := Lib.hid hj2
    clear hj2 FC FP FY FE HST HCASE
    go_wp2_with fail
    have hl3 := (Array.getElem?_eq_some_iff.1 HB4.out.r2).1
    have hl4 := (Array.getElem?_eq_some_iff.1 HB4.out.r3).1
    have hl1 := (Array.getElem?_eq_some_iff.1 HB4.out.r0).1
    have hl2 := (Array.getElem?_eq_some_iff.1 HB4.out.r1).1
    simp only at hl1 hl2 hl3 hl4
    refine ghostK [3, 4] (fun p γ wx => Lay w4 gs gm #[.string sa, .string sb, .int .i64 ss] #[.string ta, .string tb, .int .i64 ts] #[.slice G1 m.ph.length f1, .slice G2 m.fl.length f2, .slice G3 m.lv.length f3, .slice G4 m.en.length f4] #[.slice K1 m'.ph.length g1, .slice K2 m'.fl.length g2, .slice K3 m'.lv.length g3, .slice K4 m'.en.length g4] p wx) (by kernel_rfl) (by kernel_rfl) (fun γ => Lay.start HB4.out.r2) ?_
    apply GK.walk_free (by kernel_rfl) (fun γ => by rfl) (fun p γ wx w' h hb => h.quietB hb)
    ·intro γ p wx hS K hK
     have hrow := (hS.keep gt hl2 (by omega) (by omega)).trans HB4.out.r1
     have s0 := cell_of_row _ _ 0 _ _ (0, 0) hrow
     have s1 := cell_of_row _ _ 1 _ _ (0, 0) hrow
     have s2 := cell_of_row _ _ 2 _ _ (0, 0) hrow
     simp only [List.getElem?_toArray, List.getElem?_cons_zero, List.getElem?_cons_succ] at s0 s1 s2
     clear hrow
     have HK2 := Lib.hid hK
     clear hK hS
     go_simp
     exact HK2.out _ (Below.refl _ _)
    try simp only [Act.put, setIfInBounds_toArray, set_cons_succ, set_cons_zero]
    apply GK.walk_free (by kernel_rfl) (fun γ => by rfl) (fun p γ wx w' h hb => h.quietB hb)
    ·intro γ p wx hS K hK
     obtain ⟨q0, q1, q2, q3⟩ := imRowCells ((hS.keep go hl1 (by omega) (by omega)).trans HB4.out.r0)
     have HK2 := Lib.hid hK
     clear hK hS
     go_simp
     exact HK2.out _ (Below.refl _ _)
    try simp only [Act.put, setIfInBounds_toArray, set_cons_succ, set_cons_zero]
    apply GK.walk_free (by kernel_rfl) (fun γ => by rfl) (fun p γ wx w' h hb => h.quietB hb)
    ·intro γ p wx hS K hK
     have HK2 := Lib.hid hK
     clear hK hS
     go_simp
     exact HK2.out _ (Below.refl _ _)
    try simp only [Act.put, setIfInBounds_toArray, set_cons_succ, set_cons_zero]
    apply GK.walk_turn 0 rfl (by kernel_rfl) (by decide) (.inl rfl) (fun γ => by rfl)
    ·intro γ wx hS K hK
     exact wp_put 47 (.tmp 8) (.tmp 70) rfl gs #[.string ta, .string tb, .int .i64 ts] #[.string sa, .string sb, .int .i64 ss] _ rfl rfl (((hS.q0 rfl).block gs hl4).trans HB4.out.r3) (by kernel_rfl) rfl (by kernel_rfl) (fun w' hr hgr => hK undef w' (hS.step1 (Ne.symm hne) (Nat.lt_of_lt_of_le hl3 hS.le) hr.out hgr.out))
    try simp only [Act.put]
    apply GK.walk_turn 1 rfl (by kernel_rfl) (by decide) (.inr ⟨3, rfl, by kernel_rfl⟩) (fun γ => by rfl)
    ·intro γ wx hS K hK
     exact wp_put 32 (.tmp 9) (.tmp 71) rfl gm #[.slice K1 m'.ph.length g1, .slice K2 m'.fl.length g2, .slice K3 m'.lv.length g3, .slice K4 m'.en.length g4] #[.slice G1 m.ph.length f1, .slice G2 m.fl.length f2, .slice G3 m.lv.length f3, .slice G4 m.en.length f4] _ rfl rfl (hS.z2 (by decide)) (by kernel_rfl) rfl (by kernel_rfl) (fun w' hr hgr => hK undef w' (hS.step2 hr.out hgr.out))
    try simp only [Act.put]
    apply GK.walk_free (by kernel_rfl) (fun γ => by rfl) (fun p γ wx w' h hb => h.quietB hb)
    ·intro γ p wx hS K hK
     have HK2 := Lib.hid hK
     clear hK hS
     go_simp
     exact HK2.out _ (Below.refl _ _)
    try simp only [Act.put, setIfInBounds_toArray, set_cons_succ, set_cons_zero]
    refine GhostV.walk_nil (fun γ L w7 hall hx => ?_)
    have hLay := hx.done (fun t ht => hall t (by simp only [List.mem_cons, List.not_mem_nil, or_false] at ht; rcases ht with rfl | rfl <;> decide))
    clear hx hall
    obtain ⟨wa, wb, l1, l2, l3, l4, l5⟩ := hLay.q2 rfl
    have hra1 := (l1.block gs hl4).trans HB4.out.r3
    have hrb1 := (l2.block gm (by have := l1.size; omega) (fun e => hne (Option.some.inj e).symm)).trans ((l1.block gm hl3).trans HB4.out.r2)
    have hrow1 := (l4.block gs (Array.getElem?_eq_some_iff.1 l3).1 (fun e => hne (Option.some.inj e))).trans l3
    have HI7 := Lib.hid (((HI4.out.below l1).stKept hra1 l2).imKept hrb1 l4)
    have HX7 := Lib.hid (((HX4.out.below l1).stPut hra1 l2).imPut hrb1 l4)
    have hlx := (Array.getElem?_eq_some_iff.1 HB4.out.r5).1
    simp only at hlx
    have HB7 : Hid (Bx u0 [(gm, .cells #[.slice K1 m'.ph.length g1, .slice K2 m'.fl.length g2, .slice K3 m'.lv.length g3, .slice K4 m'.en.length g4] 32 (0, 0)), (gs, .cells #[.string ta, .string tb, .int .i64 ts] 47 (0, 0)), (u0.heap.size, .cells #[.int .i64 bf, .int .i64 bd, .int .i64 br, .int .i64 bp, .float .f64 be1, .float .f64 be2, .float .f64 be3, .slice A ncs cap] 26 (0, 0)), (w.heap.size, .cells #[.int .u8 room, .int .u8 ya, .int .u8 za] 54 (0, 0))] w7) := Lib.hid ⟨((HB4.out.below.trans (l1.mono HB4.out.below.size)).trans (below_grown l2 (by have := HB4.out.below.size; have := l1.size; omega) (fun k hk => by injection hk with hk; omega))).trans (below_grown l4 (by have := HB4.out.below.size; have := l1.size; have := l2.size; omega) (fun k hk => by injection hk with hk; omega)), by simp only [List.mem_cons, List.not_mem_nil, or_false]; rintro q (rfl | rfl | rfl | rfl); exact l5; exact hrow1; exact (hLay.keep _ (Array.getElem?_eq_some_iff.1 HB4.out.r4).1 (by omega) (by omega)).trans HB4.out.r4; exact (hLay.keep _ hlx (by omega) (by omega)).trans HB4.out.r5⟩
    clear hLay l1 l2 l3 l4 l5 hra1 hrb1 hrow1 HB4 HI4 HX4 hlx
    go_wp2_with fail
    go_roundw
    case rel => exact ⟨k + 1, nn, ⟨ta, tb, ts⟩, m', _, _, _, _, by omega, hn0, by omega, rfl, by go_num, HJ2.out, HI7.out, HX7.out, HB7.out⟩
    case measure => simp [intOf]; omega
   ·injection hres with q1 q2
    injection q2 with q2 q3
    injection q3 with q3 q4
    subst q1 q2 q3 q4
    have HCUT := Lib.hid hcut
    clear hcut HST HCASE
    go_wp2_with fail
    refine ghostM [6, 7, 8, 11] (fun p γ L wx => Sb w4 m2 0 p (γ 6) (γ 7) (γ 8) (γ 10) (L 10) wx) (by kernel_rfl) (by kernel_rfl) (fun γ => Sb.start) ?_
    apply GM.walk_plain (by kernel_rfl) (by kernel_rfl) (fun γ => by rfl)
    ·intro γ L p wx h1 h2 hup hlo hS K hK
     obtain ⟨b0, b1, b2, b3, b4, b5, b6, b7⟩ := boxRow (HB4.out.next hS.bl).r4
     have HK2 := Lib.hid hK
     have HS := Lib.hid hS
     clear hK h1 h2 hup hlo hS
     go_simp
     exact HK2.out _ HS.out
    try simp only [Act.put, setIfInBounds_toArray, set_cons_succ, set_cons_zero]
    apply GM.walk_plain (by kernel_rfl) (by kernel_rfl) (fun γ => by rfl)
    ·intro γ L p wx h1 h2 hup hlo hS K hK
     obtain ⟨q0, q1, q2, q3⟩ := imRowCells (HB4.out.next hS.bl).r2
     have HK2 := Lib.hid hK
     have HS := Lib.hid hS
     clear hK h1 h2 hup hlo hS
     go_simp
     exact HK2.out _ HS.out
    try simp only [Act.put, setIfInBounds_toArray, set_cons_succ, set_cons_zero]
    apply GM.walk_plain (by kernel_rfl) (by kernel_rfl) (fun γ => by rfl)
    ·intro γ L p wx h1 h2 hup hlo hS K hK
     have HK2 := Lib.hid hK
     have HS := Lib.hid hS
     clear hK h1 h2 hup hlo hS
     go_simp
     exact HK2.out _ HS.out
    try simp only [Act.put, setIfInBounds_toArray, set_cons_succ, set_cons_zero]
    apply GM.walk_plain (by kernel_rfl) (by kernel_rfl) (fun γ => by rfl)
    ·intro γ L p wx h1 h2 hup hlo hS K hK
     have HK2 := Lib.hid hK
     have HS := Lib.hid hS
     clear hK h1 h2 hup hlo hS
     go_simp
     exact HK2.out _ HS.out
    try simp only [Act.put, setIfInBounds_toArray, set_cons_succ, set_cons_zero]
    apply GM.walk_plain (by kernel_rfl) (by kernel_rfl) (fun γ => by rfl)
    ·intro γ L p wx h1 h2 hup hlo hS K hK
     obtain ⟨c0, c1, c2, c3, c4⟩ := HRC4.out wx hS.bl
     have HK2 := Lib.hid hK
     have HS := Lib.hid hS
     clear hK h1 h2 hup hlo hS
     go_simp
     exact HK2.out _ HS.out
    try simp only [Act.put, setIfInBounds_toArray, set_cons_succ, set_cons_zero]
    apply GM.walk_plain (by kernel_rfl) (by kernel_rfl) (fun γ => by rfl)
    ·intro γ L p wx h1 h2 hup hlo hS K hK
     obtain ⟨c0, c1, c2, c3, c4⟩ := HRC4.out wx hS.bl
     have HK2 := Lib.hid hK
     have HS := Lib.hid hS
     clear hK h1 h2 hup hlo hS
     go_simp
     exact HK2.out _ HS.out
    try simp only [Act.put, setIfInBounds_toArray, set_cons_succ, set_cons_zero]
    apply GM.walk_turn 0 rfl (by kernel_rfl) (by decide) (.inl rfl) (fun γ => by rfl)
    ·intro γ L wx h1 h2 hS K hK
     have hbl := hS.bl
     have HK2 := Lib.hid hK
     have HS := Lib.hid hS
     clear hK h1 h2 hS
     go_simp
     go_at_call 18
     refine (FPX.out _ _ _ _ wx (HCX.out _ (HB4.out.next hbl).below) (HM4.out.below hbl).view).mono ?_
     rintro e w' ⟨pv', fv', lv', ev', rfl, hI', hb'⟩
     exact HK2.out _ _ (HS.out.step1 hI' hb')
    try simp only [Act.put, setIfInBounds_toArray, set_cons_succ, set_cons_zero]
    apply GM.walk_turn 1 rfl (by kernel_rfl) (by decide) (.inr ⟨6, rfl, by kernel_rfl⟩) (fun γ => by rfl)
    ·intro γ L wx h1 h2 hS K hK
     have HK2 := Lib.hid hK
     have HS := Lib.hid hS
     clear hK h1 h2 hS
     go_simp
     exact HK2.out (γ 6) _ HS.out.step2
    try simp only [Act.put, setIfInBounds_toArray, set_cons_succ, set_cons_zero]
    apply GM.walk_turn 2 rfl (by kernel_rfl) (by decide) (.inr ⟨7, rfl, by kernel_rfl⟩) (fun γ => by rfl)
    ·intro γ L wx h1 h2 hS K hK
     obtain ⟨pv', fv', lv', ev', hI', hx', hy'⟩ := hS.tup (by decide)
     have HK2 := Lib.hid hK
     have HS := Lib.hid (hS.step3 hI' hx')
     rw [hy'] at HK2 ⊢
     clear hK h1 h2 hS hy' hx' hI'
     go_simp
     exact HK2.out (.agg #[pv', fv', lv', ev']) _ HS.out
    try simp only [Act.put, setIfInBounds_toArray, set_cons_succ, set_cons_zero]
    apply GM.walk_plain (by kernel_rfl) (by kernel_rfl) (fun γ => by rfl)
    ·intro γ L p wx h1 h2 hup hlo hS K hK
     obtain ⟨pv', fv', lv', ev', -, -, hy'⟩ := hS.tup (by have := hlo 1 7 rfl (h2 7 (by kernel_rfl)); omega)
     have HK2 := Lib.hid hK
     have HS := Lib.hid hS
     clear hK h1 h2 hup hlo hS
     rw [hy'] at HK2 ⊢
     clear hy'
     go_simp
     exact HK2.out _ HS.out
    try simp only [Act.put, setIfInBounds_toArray, set_cons_succ, set_cons_zero]
    apply GM.walk_ghost (by kernel_rfl) (by kernel_rfl) (fun γ => by rfl)
    ·intro γ L p wx h1 h2 hup hlo hS K hK
     have HK2 := Lib.hid hK
     have HS := Lib.hid hS
     have HH := Lib.hid h1
     clear hK h1 h2 hS hup hlo
     go_simp
     exact HK2.out _ _ (HS.out.alloc HH.out rfl)
    try simp only [Act.put, setIfInBounds_toArray, set_cons_succ, set_cons_zero]
    apply GM.walk_turn 3 rfl (by kernel_rfl) (by decide) (.inr ⟨8, rfl, by kernel_rfl⟩) (fun γ => by rfl)
    ·intro γ L wx h1 h2 hS K hK
     obtain ⟨pv', fv', lv', ev', hI', hx', hy', hz'⟩ := hS.img
     obtain ⟨g, cs', hu, hge, hr0, hcs⟩ := hS.al (h2 10 (by kernel_rfl))
     exact wp_put 32 (.tmp 17) (.tmp 81) rfl g #[pv', fv', lv', ev'] _ _ hu hz' hr0 (by kernel_rfl) hcs (one4 hI') (fun w' hr hgr' => hK undef w' (hS.step4 (h2 10 (by kernel_rfl)) hu hge hr0 hI' hx' hy' hz' hr.out hgr'.out))
    try simp only [Act.put]
    apply GM.walk_plain (by kernel_rfl) (by kernel_rfl) (fun γ => by rfl)
    ·intro γ L p wx h1 h2 hup hlo hS K hK
     have HK2 := Lib.hid hK
     have HS := Lib.hid hS
     clear hK h1 h2 hup hlo hS
     go_simp
     exact HK2.out _ HS.out
    try simp only [Act.put, setIfInBounds_toArray, set_cons_succ, set_cons_zero]
    refine GhostV.walk_nil (fun γ L w5 hall hx => ?_)
    have hSb : Sb w4 m2 0 4 (γ 6) (γ 7) (γ 8) (γ 10) (L 10) w5 := hx.done (fun t ht => hall t (by simp only [List.mem_cons, List.not_mem_nil, or_false] at ht; rcases ht with rfl | rfl | rfl | rfl <;> decide))
    clear hx hall
    obtain ⟨pv', fv', lv', ev', hI', -, -, -, hrow0⟩ := hSb.c (by decide)
    obtain ⟨gw, hu, hge, hrow⟩ := hrow0 (by decide)
    have hbl := hSb.bl
    clear hSb hrow0
    generalize γ 10 = v10' at *
    subst hu
    generalize γ 6 = v6 at *
    generalize γ 7 = v7' at *
    generalize γ 8 = v8' at *
    obtain ⟨J1, j1, rfl⟩ := own_slice hI'.p
    obtain ⟨J2, j2, rfl⟩ := own_slice hI'.f
    obtain ⟨J3, j3, rfl⟩ := own_slice hI'.l
    obtain ⟨J4, j4, rfl⟩ := own_slice hI'.e
    have HI5 := Lib.hid (HI4.out.below hbl)
    have HM5 := Lib.hid (HM4.out.below hbl)
    have HB5 := Lib.hid (HB4.out.make hrow hbl)
    clear hI' hrow hbl HB4 HI4 HX4 HM4 HRC4 FPX FP
    have c2_0 : w5.cell? ⟨gt, 0, none⟩ = some (.string ta) := cell_of_row _ _ _ _ _ (0, 0) HB5.out.r2
    have c2_1 : w5.cell? ⟨gt, 1, none⟩ = some (.string tb) := cell_of_row _ _ _ _ _ (0, 0) HB5.out.r2
    have c2_2 : w5.cell? ⟨gt, 2, none⟩ = some (.int .i64 ts) := cell_of_row _ _ _ _ _ (0, 0) HB5.out.r2
    have c5_0 : w5.cell? ⟨u0.heap.size, 0, none⟩ = some (.int .i64 bf) := cell_of_row _ _ _ _ _ (0, 0) HB5.out.r5
    have c5_1 : w5.cell? ⟨u0.heap.size, 1, none⟩ = some (.int .i64 bd) := cell_of_row _ _ _ _ _ (0, 0) HB5.out.r5
    have c5_2 : w5.cell? ⟨u0.heap.size, 2, none⟩ = some (.int .i64 br) := cell_of_row _ _ _ _ _ (0, 0) HB5.out.r5
    have c5_3 : w5.cell? ⟨u0.heap.size, 3, none⟩ = some (.int .i64 bp) := cell_of_row _ _ _ _ _ (0, 0) HB5.out.r5
    have c5_4 : w5.cell? ⟨u0.heap.size, 4, none⟩ = some (.float .f64 be1) := cell_of_row _ _ _ _ _ (0, 0) HB5.out.r5
    have c5_5 : w5.cell? ⟨u0.heap.size, 5, none⟩ = some (.float .f64 be2) := cell_of_row _ _ _ _ _ (0, 0) HB5.out.r5
    have c5_6 : w5.cell? ⟨u0.heap.size, 6, none⟩ = some (.float .f64 be3) := cell_of_row _ _ _ _ _ (0, 0) HB5.out.r5
    have c5_7 : w5.cell? ⟨u0.heap.size, 7, none⟩ = some (.slice A ncs cap) := cell_of_row _ _ _ _ _ (0, 0) HB5.out.r5
    go_wp2_with fail
    refine (FY.out A cap ⟨ta, tb, ts⟩ m' _ (HCX.out _ HB5.out.below) HCUT.out).mono ?_
    rintro e w6 ⟨pv, fv, lv, ev, rfl, hI0, hb6⟩
    have HI6 := Lib.hid (HI5.out.below hb6)
    have HM6 := Lib.hid (HM5.out.below hb6)
    have HB6 := Lib.hid (HB5.out.next hb6)
    clear c2_0 c2_1 c2_2 c5_0 c5_1 c5_2 c5_3 c5_4 c5_5 c5_6 c5_7 hb6 HB5
    have hI := hI0.mono (Nat.zero_le _)
    clear hI0 HI5 HM5
    obtain ⟨P1, p1, rfl⟩ := own_slice hI.p
    obtain ⟨P2, p2, rfl⟩ := own_slice hI.f
    obtain ⟨P3, p3, rfl⟩ := own_slice hI.l
    obtain ⟨P4, p4, rfl⟩ := own_slice hI.e
    have HIq := Lib.hid hI
    clear hI
    have ld0 : gw < w6.heap.size := (Array.getElem?_eq_some_iff.1 HB6.out.r0).1
    have ld1 : go < w6.heap.size := (Array.getElem?_eq_some_iff.1 HB6.out.r1).1
    have ld2 : gt < w6.heap.size := (Array.getElem?_eq_some_iff.1 HB6.out.r2).1
    have ld3 : gm < w6.heap.size := (Array.getElem?_eq_some_iff.1 HB6.out.r3).1
    have ld4 : gs < w6.heap.size := (Array.getElem?_eq_some_iff.1 HB6.out.r4).1
    have ld5 : u0.heap.size < w6.heap.size := (Array.getElem?_eq_some_iff.1 HB6.out.r5).1
    have ld6 : w.heap.size < w6.heap.size := (Array.getElem?_eq_some_iff.1 HB6.out.r6).1
    go_wp2_with (with_reducible show wpList _ _ _ (Oper.mk _ (.store 32 _ _) _ _ _ _ :: _) _ _; refine Hid.out ?_)
    refine Lib.hid ?_
    refine wpList_put rfl 32 _ _ rfl w6.heap.size #[.slice P1 m'.ph.length p1, .slice P2 m'.fl.length p2, .slice P3 m'.lv.length p3, .slice P4 m'.en.length p4] _ 32 rfl rfl (heap_alloc_new w6 _) (by kernel_rfl) rfl (by kernel_rfl) ?_
    intro w7 hr7 hg7
    have hbd7 : Below w6.heap.size w6 w7 := ((Below.refl w6.heap.size w6).alloc (Nat.le_refl _) _).grown hg7.out (by simp) (fun k hk => by injection hk with hk; omega)
    have lw7 : u0.heap.size ≤ w6.heap.size := HB6.out.below.size
    have HP := Lib.hid (HIq.out.below hbd7)
    have HI6 := Lib.hid (HI6.out.below hbd7)
    have HM6 := Lib.hid (HM6.out.below hbd7)
    have HB7 := Lib.hid (HB6.out.make hr7.out hbd7)
    clear hr7 hg7 hbd7 HB6 HIq
    generalize w6.heap.size = gp at *
    have c0_0 : w7.cell? ⟨gp, 0, none⟩ = some (.slice P1 m'.ph.length p1) := cell_of_row _ _ _ _ _ (0, 0) HB7.out.r0
    have c0_1 : w7.cell? ⟨gp, 1, none⟩ = some (.slice P2 m'.fl.length p2) := cell_of_row _ _ _ _ _ (0, 0) HB7.out.r0
    have c0_2 : w7.cell? ⟨gp, 2, none⟩ = some (.slice P3 m'.lv.length p3) := cell_of_row _ _ _ _ _ (0, 0) HB7.out.r0
    have c0_3 : w7.cell? ⟨gp, 3, none⟩ = some (.slice P4 m'.en.length p4) := cell_of_row _ _ _ _ _ (0, 0) HB7.out.r0
    have c2_0 : w7.cell? ⟨go, 0, none⟩ = some (.slice K1 m'.ph.length g1) := cell_of_row _ _ _ _ _ (0, 0) HB7.out.r2
    have c2_1 : w7.cell? ⟨go, 1, none⟩ = some (.slice K2 m'.fl.length g2) := cell_of_row _ _ _ _ _ (0, 0) HB7.out.r2
    have c2_2 : w7.cell? ⟨go, 2, none⟩ = some (.slice K3 m'.lv.length g3) := cell_of_row _ _ _ _ _ (0, 0) HB7.out.r2
    have c2_3 : w7.cell? ⟨go, 3, none⟩ = some (.slice K4 m'.en.length g4) := cell_of_row _ _ _ _ _ (0, 0) HB7.out.r2
    have c4_0 : w7.cell? ⟨gm, 0, none⟩ = some (.slice G1 m'.ph.length f1) := cell_of_row _ _ _ _ _ (0, 0) HB7.out.r4
    have c4_1 : w7.cell? ⟨gm, 1, none⟩ = some (.slice G2 m'.fl.length f2) := cell_of_row _ _ _ _ _ (0, 0) HB7.out.r4
    have c4_2 : w7.cell? ⟨gm, 2, none⟩ = some (.slice G3 m'.lv.length f3) := cell_of_row _ _ _ _ _ (0, 0) HB7.out.r4
    have c4_3 : w7.cell? ⟨gm, 3, none⟩ = some (.slice G4 m'.en.length f4) := cell_of_row _ _ _ _ _ (0, 0) HB7.out.r4
    go_wp2_with fail
    refine (FE.out _ _ _ _ _ _ _ _ _ _ _ HCUT.out HI6.out.view HM6.out.view).mono ?_
    rintro e w8 ⟨rfl, hb8⟩
    have HI6 := Lib.hid (HI6.out.below hb8)
    have HM6 := Lib.hid (HM6.out.below hb8)
    have HP := Lib.hid (HP.out.below hb8)
    have HB8 := Lib.hid (HB7.out.next hb8)
    clear c0_0 c0_1 c0_2 c0_3 c2_0 c2_1 c2_2 c2_3 c4_0 c4_1 c4_2 c4_3 hb8 HB7
    have c0_0 : w8.cell? ⟨gp, 0, none⟩ = some (.slice P1 m'.ph.length p1) := cell_of_row _ _ _ _ _ (0, 0) HB8.out.r0
    have c0_1 : w8.cell? ⟨gp, 1, none⟩ = some (.slice P2 m'.fl.length p2) := cell_of_row _ _ _ _ _ (0, 0) HB8.out.r0
    have c0_2 : w8.cell? ⟨gp, 2, none⟩ = some (.slice P3 m'.lv.length p3) := cell_of_row _ _ _ _ _ (0, 0) HB8.out.r0
    have c0_3 : w8.cell? ⟨gp, 3, none⟩ = some (.slice P4 m'.en.length p4) := cell_of_row _ _ _ _ _ (0, 0) HB8.out.r0
    have c2_0 : w8.cell? ⟨go, 0, none⟩ = some (.slice K1 m'.ph.length g1) := cell_of_row _ _ _ _ _ (0, 0) HB8.out.r2
    have c2_1 : w8.cell? ⟨go, 1, none⟩ = some (.slice K2 m'.fl.length g2) := cell_of_row _ _ _ _ _ (0, 0) HB8.out.r2
    have c2_2 : w8.cell? ⟨go, 2, none⟩ = some (.slice K3 m'.lv.length g3) := cell_of_row _ _ _ _ _ (0, 0) HB8.out.r2
    have c2_3 : w8.cell? ⟨go, 3, none⟩ = some (.slice K4 m'.en.length g4) := cell_of_row _ _ _ _ _ (0, 0) HB8.out.r2
    have c4_0 : w8.cell? ⟨gm, 0, none⟩ = some (.slice G1 m'.ph.length f1) := cell_of_row _ _ _ _ _ (0, 0) HB8.out.r4
    have c4_1 : w8.cell? ⟨gm, 1, none⟩ = some (.slice G2 m'.fl.length f2) := cell_of_row _ _ _ _ _ (0, 0) HB8.out.r4
    have c4_2 : w8.cell? ⟨gm, 2, none⟩ = some (.slice G3 m'.lv.length f3) := cell_of_row _ _ _ _ _ (0, 0) HB8.out.r4
    have c4_3 : w8.cell? ⟨gm, 3, none⟩ = some (.slice G4 m'.en.length f4) := cell_of_row _ _ _ _ _ (0, 0) HB8.out.r4
    go_wp2_with fail
    refine (FE.out _ _ _ _ _ _ _ _ _ _ _ HCUT.out HP.out.view HM6.out.view).mono ?_
    rintro e w9 ⟨rfl, hb9⟩
    have HI6 := Lib.hid (HI6.out.below hb9)
    have HM6 := Lib.hid (HM6.out.below hb9)
    have HP := Lib.hid (HP.out.below hb9)
    have HB9 := Lib.hid (HB8.out.next hb9)
    clear c0_0 c0_1 c0_2 c0_3 c2_0 c2_1 c2_2 c2_3 c4_0 c4_1 c4_2 c4_3 hb9 HB8
    have c3_0 : w9.cell? ⟨gt, 0, none⟩ = some (.string ta) := cell_of_row _ _ _ _ _ (0, 0) HB9.out.r3
    have c3_1 : w9.cell? ⟨gt, 1, none⟩ = some (.string tb) := cell_of_row _ _ _ _ _ (0, 0) HB9.out.r3
    have c3_2 : w9.cell? ⟨gt, 2, none⟩ = some (.int .i64 ts) := cell_of_row _ _ _ _ _ (0, 0) HB9.out.r3
    have c6_0 : w9.cell? ⟨u0.heap.size, 0, none⟩ = some (.int .i64 bf) := cell_of_row _ _ _ _ _ (0, 0) HB9.out.r6
    have c6_1 : w9.cell? ⟨u0.heap.size, 1, none⟩ = some (.int .i64 bd) := cell_of_row _ _ _ _ _ (0, 0) HB9.out.r6
    have c6_2 : w9.cell? ⟨u0.heap.size, 2, none⟩ = some (.int .i64 br) := cell_of_row _ _ _ _ _ (0, 0) HB9.out.r6
    have c6_3 : w9.cell? ⟨u0.heap.size, 3, none⟩ = some (.int .i64 bp) := cell_of_row _ _ _ _ _ (0, 0) HB9.out.r6
    have c6_4 : w9.cell? ⟨u0.heap.size, 4, none⟩ = some (.float .f64 be1) := cell_of_row _ _ _ _ _ (0, 0) HB9.out.r6
    have c6_5 : w9.cell? ⟨u0.heap.size, 5, none⟩ = some (.float .f64 be2) := cell_of_row _ _ _ _ _ (0, 0) HB9.out.r6
    have c6_6 : w9.cell? ⟨u0.heap.size, 6, none⟩ = some (.float .f64 be3) := cell_of_row _ _ _ _ _ (0, 0) HB9.out.r6
    have c6_7 : w9.cell? ⟨u0.heap.size, 7, none⟩ = some (.slice A ncs cap) := cell_of_row _ _ _ _ _ (0, 0) HB9.out.r6
    have c7_0 : w9.cell? ⟨w.heap.size, 0, none⟩ = some (.int .u8 room) := cell_of_row _ _ _ _ _ (0, 0) HB9.out.r7
    have c7_1 : w9.cell? ⟨w.heap.size, 1, none⟩ = some (.int .u8 ya) := cell_of_row _ _ _ _ _ (0, 0) HB9.out.r7
    have c7_2 : w9.cell? ⟨w.heap.size, 2, none⟩ = some (.int .u8 za) := cell_of_row _ _ _ _ _ (0, 0) HB9.out.r7
    obtain ⟨⟨ua, ub, us⟩, iq, nq, eq, hRq, heq, hcq⟩ := HRG.out ⟨ta, tb, ts⟩ m' (za : Int) HCUT.out (by omega)
    have FC1 := Lib.hid (fun wx hc => FC.out A cap ⟨ta, tb, ts⟩ m' (za : Int) wx hc HCUT.out ⟨by omega, by omega⟩)
    rw [hRq] at FC1
    simp only [St.agg] at FC1
    have HCU := Lib.hid hcq
    clear hRq hcq
    go_wp2_with fail
    refine (FC1.out _ (HCX.out _ HB9.out.below)).mono ?_
    rintro e w10 ⟨pv, fv, lv, ev, rfl, hI0, hb10⟩
    have HI6 := Lib.hid (HI6.out.below hb10)
    have HM6 := Lib.hid (HM6.out.below hb10)
    have HP := Lib.hid (HP.out.below hb10)
    have HB10 := Lib.hid (HB9.out.next hb10)
    clear c3_0 c3_1 c3_2 c6_0 c6_1 c6_2 c6_3 c6_4 c6_5 c6_6 c6_7 c7_0 c7_1 c7_2 hb10 HB9
    obtain ⟨R1, r1, rfl⟩ := own_slice hI0.p
    obtain ⟨R2, r2, rfl⟩ := own_slice hI0.f
    obtain ⟨R3, r3, rfl⟩ := own_slice hI0.l
    obtain ⟨R4, r4, rfl⟩ := own_slice hI0.e
    have HIq := Lib.hid hI0
    clear hI0
    have ld0 : gp < w10.heap.size := (Array.getElem?_eq_some_iff.1 HB10.out.r0).1
    have ld1 : gw < w10.heap.size := (Array.getElem?_eq_some_iff.1 HB10.out.r1).1
    have ld2 : go < w10.heap.size := (Array.getElem?_eq_some_iff.1 HB10.out.r2).1
    have ld3 : gt < w10.heap.size := (Array.getElem?_eq_some_iff.1 HB10.out.r3).1
    have ld4 : gm < w10.heap.size := (Array.getElem?_eq_some_iff.1 HB10.out.r4).1
    have ld5 : gs < w10.heap.size := (Array.getElem?_eq_some_iff.1 HB10.out.r5).1
    have ld6 : u0.heap.size < w10.heap.size := (Array.getElem?_eq_some_iff.1 HB10.out.r6).1
    have ld7 : w.heap.size < w10.heap.size := (Array.getElem?_eq_some_iff.1 HB10.out.r7).1
    have lwq : u0.heap.size ≤ w10.heap.size := HB10.out.below.size
    go_wp2_with (with_reducible show wpList _ _ _ (Oper.mk _ (.store 47 _ _) _ _ _ _ :: _) _ _; refine Hid.out ?_)
    refine Lib.hid ?_
    refine wpList_put rfl 47 _ _ rfl w10.heap.size #[.string ua, .string ub, .int .i64 us] _ 47 rfl rfl (heap_alloc2_old w10 _ _) (by kernel_rfl) rfl (by kernel_rfl) ?_
    intro wb hrb hgb
    have hbdb : Below w10.heap.size w10 wb := (((Below.refl w10.heap.size w10).alloc (Nat.le_refl _) _).alloc (by simp) _).grown hgb.out (by simp; omega) (fun k hk => by injection hk with hk; omega)
    have hrmb := (hgb.out.block (w10.heap.size + 1) (by simp) (by simp)).trans (heap_alloc2_new w10 _ _)
    go_wp2_with (with_reducible show wpList _ _ _ (Oper.mk _ (.store 32 _ _) _ _ _ _ :: _) _ _; refine Hid.out ?_)
    refine Lib.hid ?_
    refine wpList_put rfl 32 _ _ rfl (w10.heap.size + 1) #[.slice R1 iq.ph.length r1, .slice R2 iq.fl.length r2, .slice R3 iq.lv.length r3, .slice R4 iq.en.length r4] _ 32 rfl rfl hrmb (by kernel_rfl) rfl (by kernel_rfl) ?_
    intro w11 hrc hgc
    have hbdc : Below w10.heap.size w10 w11 := hbdb.grown hgc.out hbdb.size (fun k hk => by injection hk with hk; omega)
    have hrsc := (hgc.out.block w10.heap.size ((Array.getElem?_eq_some_iff.1 hrb.out).1) (by simp)).trans hrb.out
    have HR := Lib.hid ((HIq.out.below hbdc).mono (Nat.zero_le _))
    have HI6 := Lib.hid (HI6.out.below hbdc)
    have HM6 := Lib.hid (HM6.out.below hbdc)
    have HP := Lib.hid (HP.out.below hbdc)
    have HB11 : Hid (Bx u0 [(w10.heap.size + 1, .cells #[.slice R1 iq.ph.length r1, .slice R2 iq.fl.length r2, .slice R3 iq.lv.length r3, .slice R4 iq.en.length r4] 32 (0, 0)), (w10.heap.size, .cells #[.string ua, .string ub, .int .i64 us] 47 (0, 0)), (gp, .cells #[.slice P1 m'.ph.length p1, .slice P2 m'.fl.length p2, .slice P3 m'.lv.length p3, .slice P4 m'.en.length p4] 32 (0, 0)), (gw, .cells #[.slice J1 m2.ph.length j1, .slice J2 m2.fl.length j2, .slice J3 m2.lv.length j3, .slice J4 m2.en.length j4] 32 (0, 0)), (go, .cells #[.slice K1 m'.ph.length g1, .slice K2 m'.fl.length g2, .slice K3 m'.lv.length g3, .slice K4 m'.en.length g4] 32 (0, 0)), (gt, .cells #[.string ta, .string tb, .int .i64 ts] 47 (0, 0)), (gm, .cells #[.slice G1 m'.ph.length f1, .slice G2 m'.fl.length f2, .slice G3 m'.lv.length f3, .slice G4 m'.en.length f4] 32 (0, 0)), (gs, .cells #[.string sa, .string sb, .int .i64 ss] 47 (0, 0)), (u0.heap.size, .cells #[.int .i64 bf, .int .i64 bd, .int .i64 br, .int .i64 bp, .float .f64 be1, .float .f64 be2, .float .f64 be3, .slice A ncs cap] 26 (0, 0)), (w.heap.size, .cells #[.int .u8 room, .int .u8 ya, .int .u8 za] 54 (0, 0))] w11) := Lib.hid ⟨HB10.out.below.trans (hbdc.mono HB10.out.below.size), fun q hq => by rcases List.mem_cons.1 hq with rfl | hq; exact hrc.out; rcases List.mem_cons.1 hq with rfl | hq; exact hrsc; exact (HB10.out.next hbdc).rows q hq⟩
    clear hrb hgb hbdb hrmb hrc hgc hbdc hrsc HIq HB10
    generalize w10.heap.size + 1 = gv at *
    generalize w10.heap.size = gu at *
    have HBr11 : Hid (Bx u0 [(gu, .cells #[.string ua, .string ub, .int .i64 us] 47 (0, 0)), (gp, .cells #[.slice P1 m'.ph.length p1, .slice P2 m'.fl.length p2, .slice P3 m'.lv.length p3, .slice P4 m'.en.length p4] 32 (0, 0)), (u0.heap.size, .cells #[.int .i64 bf, .int .i64 bd, .int .i64 br, .int .i64 bp, .float .f64 be1, .float .f64 be2, .float .f64 be3, .slice A ncs cap] 26 (0, 0))] w11) := Lib.hid (HB11.out.less (by simp only [List.mem_cons, List.not_mem_nil, or_false]; rintro p (rfl | rfl | rfl) <;> simp))
    clear HB11
    have HSV := Lib.hid (HRW.out ⟨ua, ub, us⟩ m' HCU.out)
    rcases heq with rfl | rfl
    ·go_wp2_with fail
     refine ghostM [] (fun p γ L wx => Below w11.heap.size w11 wx ∧ (L 9 = true → ∃ pv fv lv ev, IOwn wx 0 pv fv lv ev m' ∧ γ 9 = .agg #[pv, fv, lv, ev])) (by kernel_rfl) (by kernel_rfl) (fun γ => ⟨by exact ⟨rfl, rfl, rfl, Nat.le_refl _, fun _ _ => rfl⟩, fun h => absurd h (by decide)⟩) ?_
     apply GM.walk_plain (by kernel_rfl) (by kernel_rfl) (fun γ => by rfl)
     ·intro γ L p wx h1 h2 hup hlo hS K hK
      have HK2 := Lib.hid hK
      have HS := Lib.hid hS
      clear hK h1 h2 hup hlo hS
      go_simp
      exact HK2.out _ HS.out
     try simp only [Act.put, setIfInBounds_toArray, set_cons_succ, set_cons_zero]
     apply GM.walk_plain (by kernel_rfl) (by kernel_rfl) (fun γ => by rfl)
     ·intro γ L p wx h1 h2 hup hlo hS K hK
      have HK2 := Lib.hid hK
      have HS := Lib.hid hS
      clear hK h1 h2 hup hlo hS
      go_simp
      exact HK2.out _ HS.out
     try simp only [Act.put, setIfInBounds_toArray, set_cons_succ, set_cons_zero]
     apply GM.walk_plain (by kernel_rfl) (by kernel_rfl) (fun γ => by rfl)
     ·intro γ L p wx h1 h2 hup hlo hS K hK
      have HK2 := Lib.hid hK
      have HS := Lib.hid hS
      clear hK h1 h2 hup hlo hS
      go_simp
      exact HK2.out _ HS.out
     try simp only [Act.put, setIfInBounds_toArray, set_cons_succ, set_cons_zero]
     apply GM.walk_no (by kernel_rfl) (fun γ => by rfl) (fun p γ L wx h => ⟨h.1, fun q => h.2 q⟩)
     try simp only [Act.put, setIfInBounds_toArray, set_cons_succ, set_cons_zero]
     apply GM.walk_no (by kernel_rfl) (fun γ => by rfl) (fun p γ L wx h => ⟨h.1, fun q => h.2 q⟩)
     try simp only [Act.put, setIfInBounds_toArray, set_cons_succ, set_cons_zero]
     apply GM.walk_plain (by kernel_rfl) (by kernel_rfl) (fun γ => by rfl)
     ·intro γ L p wx h1 h2 hup hlo hS K hK
      have HK2 := Lib.hid hK
      have HS := Lib.hid hS
      clear hK h1 h2 hup hlo hS
      go_simp
      exact HK2.out _ HS.out
     try simp only [Act.put, setIfInBounds_toArray, set_cons_succ, set_cons_zero]
     apply GM.walk_plain (by kernel_rfl) (by kernel_rfl) (fun γ => by rfl)
     ·intro γ L p wx h1 h2 hup hlo hS K hK
      have HK2 := Lib.hid hK
      have HS := Lib.hid hS
      clear hK h1 h2 hup hlo hS
      go_simp
      exact HK2.out _ HS.out
     try simp only [Act.put, setIfInBounds_toArray, set_cons_succ, set_cons_zero]
     apply GM.walk_plain (by kernel_rfl) (by kernel_rfl) (fun γ => by rfl)
     ·intro γ L p wx h1 h2 hup hlo hS K hK
      obtain ⟨b0, b1, b2, b3, b4, b5, b6, b7⟩ := boxRow (HBr11.out.next hS.1).r2
      have HK2 := Lib.hid hK
      have HS := Lib.hid hS
      clear hK h1 h2 hup hlo hS
      go_simp
      exact HK2.out _ HS.out
     try simp only [Act.put, setIfInBounds_toArray, set_cons_succ, set_cons_zero]
     apply GM.walk_plain (by kernel_rfl) (by kernel_rfl) (fun γ => by rfl)
     ·intro γ L p wx h1 h2 hup hlo hS K hK
      have s0 := cell_of_row _ _ 0 _ _ (0, 0) (HBr11.out.next hS.1).r0
      have s1 := cell_of_row _ _ 1 _ _ (0, 0) (HBr11.out.next hS.1).r0
      have s2 := cell_of_row _ _ 2 _ _ (0, 0) (HBr11.out.next hS.1).r0
      simp only [List.getElem?_toArray, List.getElem?_cons_zero, List.getElem?_cons_succ] at s0 s1 s2
      have HK2 := Lib.hid hK
      have HS := Lib.hid hS
      clear hK h1 h2 hup hlo hS
      go_simp
      exact HK2.out _ HS.out
     try simp only [Act.put, setIfInBounds_toArray, set_cons_succ, set_cons_zero]
     apply GM.walk_ghost (by kernel_rfl) (by kernel_rfl) (fun γ => by rfl)
     ·intro γ L p wx h1 h2 hup hlo hS K hK
      have HK2 := Lib.hid hK
      have HS := Lib.hid hS
      clear hK h1 h2 hS hup hlo
      go_simp
      go_at_call 19
      refine (FY.out A cap _ _ wx (HCX.out _ (HBr11.out.next HS.out.1).below) HCU.out).mono ?_
      rintro e w' ⟨pv', fv', lv', ev', rfl, hI', hb'⟩
      exact HK2.out _ _ ⟨HS.out.1.trans (hb'.mono HS.out.1.size), fun _ => ⟨pv', fv', lv', ev', hI'.mono (Nat.zero_le _), rfl⟩⟩
     try simp only [Act.put, setIfInBounds_toArray, set_cons_succ, set_cons_zero]
     apply GM.walk_plain (by kernel_rfl) (by kernel_rfl) (fun γ => by rfl)
     ·intro γ L p wx h1 h2 hup hlo hS K hK
      obtain ⟨q0, q1, q2, q3⟩ := imRowCells (HBr11.out.next hS.1).r1
      have HK2 := Lib.hid hK
      have HS := Lib.hid hS
      clear hK h1 h2 hup hlo hS
      go_simp
      exact HK2.out _ HS.out
     try simp only [Act.put, setIfInBounds_toArray, set_cons_succ, set_cons_zero]
     apply GM.walk_plain (by kernel_rfl) (by kernel_rfl) (fun γ => by rfl)
     ·intro γ L p wx h1 h2 hup hlo hS K hK
      obtain ⟨pv', fv', lv', ev', hIy, hy'⟩ := hS.2 (h2 9 (by kernel_rfl))
      have HIy := Lib.hid hIy
      have HK2 := Lib.hid hK
      have HS := Lib.hid hS
      clear hK h1 h2 hup hlo hS
      rw [hy'] at HK2 ⊢
      clear hy'
      clear hIy
      go_simp
      go_at_call 13; refine (FE.out _ _ _ _ _ _ _ _ _ _ wx HCU.out HIy.out.view (HP.out.below HS.out.1).view).mono ?_; rintro e w' ⟨rfl, hb'⟩; exact HK2.out _ ⟨HS.out.1.trans (hb'.mono HS.out.1.size), fun q => by obtain ⟨pv, fv, lv, ev, e1, e2⟩ := HS.out.2 q; exact ⟨pv, fv, lv, ev, e1.below hb', e2⟩⟩
     try simp only [Act.put, setIfInBounds_toArray, set_cons_succ, set_cons_zero]
     apply GM.walk_plain (by kernel_rfl) (by kernel_rfl) (fun γ => by rfl)
     ·intro γ L p wx h1 h2 hup hlo hS K hK
      have HK2 := Lib.hid hK
      have HS := Lib.hid hS
      clear hK h1 h2 hup hlo hS
      go_simp
      exact HK2.out _ HS.out
     try simp only [Act.put, setIfInBounds_toArray, set_cons_succ, set_cons_zero]
     apply GM.walk_plain (by kernel_rfl) (by kernel_rfl) (fun γ => by rfl)
     ·intro γ L p wx h1 h2 hup hlo hS K hK
      have HK2 := Lib.hid hK
      have HS := Lib.hid hS
      clear hK h1 h2 hup hlo hS
      go_simp
      exact HK2.out _ HS.out
     try simp only [Act.put, setIfInBounds_toArray, set_cons_succ, set_cons_zero]
     refine GhostV.walk_nil (fun γ L w12 hall hx => ?_)
     have hbl := (hx.done (fun t ht => by cases ht)).1
     clear hx hall
     generalize γ 9 = vg12 at *
     have HP := Lib.hid (HP.out.below hbl)
     have HB12 := Lib.hid (HBr11.out.next hbl)
     clear hbl HBr11
     obtain ⟨⟨va, vb, vs⟩, nv, hRv, hjv⟩ := HSV.out
     have FC2 := Lib.hid (fun wx hc => FC.out A cap ⟨ua, ub, us⟩ m' 100000 wx hc HCU.out (by decide))
     rw [hRv] at FC2
     simp only [St.agg] at FC2
     have HJV := Lib.hid hjv
     clear hRv hjv HSV
     have c0_0 : w12.cell? ⟨gu, 0, none⟩ = some (.string ua) := cell_of_row _ _ _ _ _ (0, 0) HB12.out.r0
     have c0_1 : w12.cell? ⟨gu, 1, none⟩ = some (.string ub) := cell_of_row _ _ _ _ _ (0, 0) HB12.out.r0
     have c0_2 : w12.cell? ⟨gu, 2, none⟩ = some (.int .i64 us) := cell_of_row _ _ _ _ _ (0, 0) HB12.out.r0
     have c2_0 : w12.cell? ⟨u0.heap.size, 0, none⟩ = some (.int .i64 bf) := cell_of_row _ _ _ _ _ (0, 0) HB12.out.r2
     have c2_1 : w12.cell? ⟨u0.heap.size, 1, none⟩ = some (.int .i64 bd) := cell_of_row _ _ _ _ _ (0, 0) HB12.out.r2
     have c2_2 : w12.cell? ⟨u0.heap.size, 2, none⟩ = some (.int .i64 br) := cell_of_row _ _ _ _ _ (0, 0) HB12.out.r2
     have c2_3 : w12.cell? ⟨u0.heap.size, 3, none⟩ = some (.int .i64 bp) := cell_of_row _ _ _ _ _ (0, 0) HB12.out.r2
     have c2_4 : w12.cell? ⟨u0.heap.size, 4, none⟩ = some (.float .f64 be1) := cell_of_row _ _ _ _ _ (0, 0) HB12.out.r2
     have c2_5 : w12.cell? ⟨u0.heap.size, 5, none⟩ = some (.float .f64 be2) := cell_of_row _ _ _ _ _ (0, 0) HB12.out.r2
     have c2_6 : w12.cell? ⟨u0.heap.size, 6, none⟩ = some (.float .f64 be3) := cell_of_row _ _ _ _ _ (0, 0) HB12.out.r2
     have c2_7 : w12.cell? ⟨u0.heap.size, 7, none⟩ = some (.slice A ncs cap) := cell_of_row _ _ _ _ _ (0, 0) HB12.out.r2
     go_wp2_with fail
     refine (FC2.out _ (HCX.out _ HB12.out.below)).mono ?_
     rintro e w13 ⟨pv, fv, lv, ev, rfl, hI0, hb13⟩
     have HP := Lib.hid (HP.out.below hb13)
     have HB13 := Lib.hid (HB12.out.next hb13)
     clear c0_0 c0_1 c0_2 c2_0 c2_1 c2_2 c2_3 c2_4 c2_5 c2_6 c2_7 hb13 HB12
     obtain ⟨Q1, t1, rfl⟩ := own_slice hI0.p
     obtain ⟨Q2, t2, rfl⟩ := own_slice hI0.f
     obtain ⟨Q3, t3, rfl⟩ := own_slice hI0.l
     obtain ⟨Q4, t4, rfl⟩ := own_slice hI0.e
     have HIq := Lib.hid hI0
     clear hI0
     have ld0 : gu < w13.heap.size := (Array.getElem?_eq_some_iff.1 HB13.out.r0).1
     have ld1 : gp < w13.heap.size := (Array.getElem?_eq_some_iff.1 HB13.out.r1).1
     have ld2 : u0.heap.size < w13.heap.size := (Array.getElem?_eq_some_iff.1 HB13.out.r2).1
     have lwq : u0.heap.size ≤ w13.heap.size := HB13.out.below.size
     go_wp2_with (with_reducible show wpList _ _ _ (Oper.mk _ (.store 47 _ _) _ _ _ _ :: _) _ _; refine Hid.out ?_)
     refine Lib.hid ?_
     refine wpList_put rfl 47 _ _ rfl w13.heap.size #[.string va, .string vb, .int .i64 vs] _ 47 rfl rfl (heap_alloc2_old w13 _ _) (by kernel_rfl) rfl (by kernel_rfl) ?_
     intro wb hrb hgb
     have hbdb : Below w13.heap.size w13 wb := (((Below.refl w13.heap.size w13).alloc (Nat.le_refl _) _).alloc (by simp) _).grown hgb.out (by simp; omega) (fun k hk => by injection hk with hk; omega)
     have hrmb := (hgb.out.block (w13.heap.size + 1) (by simp) (by simp)).trans (heap_alloc2_new w13 _ _)
     go_wp2_with (with_reducible show wpList _ _ _ (Oper.mk _ (.store 32 _ _) _ _ _ _ :: _) _ _; refine Hid.out ?_)
     refine Lib.hid ?_
     refine wpList_put rfl 32 _ _ rfl (w13.heap.size + 1) #[.slice Q1 m'.ph.length t1, .slice Q2 m'.fl.length t2, .slice Q3 m'.lv.length t3, .slice Q4 m'.en.length t4] _ 32 rfl rfl hrmb (by kernel_rfl) rfl (by kernel_rfl) ?_
     intro w14 hrc hgc
     have hbdc : Below w13.heap.size w13 w14 := hbdb.grown hgc.out hbdb.size (fun k hk => by injection hk with hk; omega)
     have hrsc := (hgc.out.block w13.heap.size ((Array.getElem?_eq_some_iff.1 hrb.out).1) (by simp)).trans hrb.out
     have HQ := Lib.hid ((HIq.out.below hbdc).mono (Nat.zero_le _))
     have HP := Lib.hid (HP.out.below hbdc)
     have HB14 : Hid (Bx u0 [(w13.heap.size + 1, .cells #[.slice Q1 m'.ph.length t1, .slice Q2 m'.fl.length t2, .slice Q3 m'.lv.length t3, .slice Q4 m'.en.length t4] 32 (0, 0)), (w13.heap.size, .cells #[.string va, .string vb, .int .i64 vs] 47 (0, 0)), (gu, .cells #[.string ua, .string ub, .int .i64 us] 47 (0, 0)), (gp, .cells #[.slice P1 m'.ph.length p1, .slice P2 m'.fl.length p2, .slice P3 m'.lv.length p3, .slice P4 m'.en.length p4] 32 (0, 0)), (u0.heap.size, .cells #[.int .i64 bf, .int .i64 bd, .int .i64 br, .int .i64 bp, .float .f64 be1, .float .f64 be2, .float .f64 be3, .slice A ncs cap] 26 (0, 0))] w14) := Lib.hid ⟨HB13.out.below.trans (hbdc.mono HB13.out.below.size), fun q hq => by rcases List.mem_cons.1 hq with rfl | hq; exact hrc.out; rcases List.mem_cons.1 hq with rfl | hq; exact hrsc; exact (HB13.out.next hbdc).rows q hq⟩
     clear hrb hgb hbdb hrmb hrc hgc hbdc hrsc HIq HB13
     generalize w13.heap.size + 1 = gy at *
     generalize w13.heap.size = gx at *
     have HBr14 : Hid (Bx u0 [(gy, .cells #[.slice Q1 m'.ph.length t1, .slice Q2 m'.fl.length t2, .slice Q3 m'.lv.length t3, .slice Q4 m'.en.length t4] 32 (0, 0)), (gx, .cells #[.string va, .string vb, .int .i64 vs] 47 (0, 0)), (gp, .cells #[.slice P1 m'.ph.length p1, .slice P2 m'.fl.length p2, .slice P3 m'.lv.length p3, .slice P4 m'.en.length p4] 32 (0, 0)), (u0.heap.size, .cells #[.int .i64 bf, .int .i64 bd, .int .i64 br, .int .i64 bp, .float .f64 be1, .float .f64 be2, .float .f64 be3, .slice A ncs cap] 26 (0, 0))] w14) := Lib.hid (HB14.out.less (by simp only [List.mem_cons, List.not_mem_nil, or_false]; rintro p (rfl | rfl | rfl | rfl) <;> simp))
     clear HB14
     go_wp2_with fail
     refine ghostM [] (fun p γ L wx => Below w14.heap.size w14 wx ∧ (L 11 = true → ∃ pv fv lv ev, IOwn wx 0 pv fv lv ev m' ∧ γ 11 = .agg #[pv, fv, lv, ev])) (by kernel_rfl) (by kernel_rfl) (fun γ => ⟨by exact ⟨rfl, rfl, rfl, Nat.le_refl _, fun _ _ => rfl⟩, fun h => absurd h (by decide)⟩) ?_
     apply GM.walk_plain (by kernel_rfl) (by kernel_rfl) (fun γ => by rfl)
     ·intro γ L p wx h1 h2 hup hlo hS K hK
      have HK2 := Lib.hid hK
      have HS := Lib.hid hS
      clear hK h1 h2 hup hlo hS
      go_simp
      exact HK2.out _ HS.out
     try simp only [Act.put, setIfInBounds_toArray, set_cons_succ, set_cons_zero]
     apply GM.walk_plain (by kernel_rfl) (by kernel_rfl) (fun γ => by rfl)
     ·intro γ L p wx h1 h2 hup hlo hS K hK
      have HK2 := Lib.hid hK
      have HS := Lib.hid hS
      clear hK h1 h2 hup hlo hS
      go_simp
      exact HK2.out _ HS.out
     try simp only [Act.put, setIfInBounds_toArray, set_cons_succ, set_cons_zero]
     apply GM.walk_plain (by kernel_rfl) (by kernel_rfl) (fun γ => by rfl)
     ·intro γ L p wx h1 h2 hup hlo hS K hK
      have HK2 := Lib.hid hK
      have HS := Lib.hid hS
      clear hK h1 h2 hup hlo hS
      go_simp
      exact HK2.out _ HS.out
     try simp only [Act.put, setIfInBounds_toArray, set_cons_succ, set_cons_zero]
     apply GM.walk_plain (by kernel_rfl) (by kernel_rfl) (fun γ => by rfl)
     ·intro γ L p wx h1 h2 hup hlo hS K hK
      obtain ⟨q0, q1, q2, q3⟩ := imRowCells (HBr14.out.next hS.1).r0
      have HK2 := Lib.hid hK
      have HS := Lib.hid hS
      clear hK h1 h2 hup hlo hS
      go_simp
      exact HK2.out _ HS.out
     try simp only [Act.put, setIfInBounds_toArray, set_cons_succ, set_cons_zero]
     apply GM.walk_plain (by kernel_rfl) (by kernel_rfl) (fun γ => by rfl)
     ·intro γ L p wx h1 h2 hup hlo hS K hK
      obtain ⟨q0, q1, q2, q3⟩ := imRowCells (HBr14.out.next hS.1).r2
      have HK2 := Lib.hid hK
      have HS := Lib.hid hS
      clear hK h1 h2 hup hlo hS
      go_simp
      exact HK2.out _ HS.out
     try simp only [Act.put, setIfInBounds_toArray, set_cons_succ, set_cons_zero]
     apply GM.walk_plain (by kernel_rfl) (by kernel_rfl) (fun γ => by rfl)
     ·intro γ L p wx h1 h2 hup hlo hS K hK
      have HZ := Lib.hid hS
      have HK2 := Lib.hid hK
      have HS := Lib.hid hS
      clear hK h1 h2 hup hlo hS
      clear HZ
      go_simp
      go_at_call 13; refine (FE.out _ _ _ _ _ _ _ _ _ _ wx HCU.out (HQ.out.below HS.out.1).view (HP.out.below HS.out.1).view).mono ?_; rintro e w' ⟨rfl, hb'⟩; exact HK2.out _ ⟨HS.out.1.trans (hb'.mono HS.out.1.size), fun q => by obtain ⟨pv, fv, lv, ev, e1, e2⟩ := HS.out.2 q; exact ⟨pv, fv, lv, ev, e1.below hb', e2⟩⟩
     try simp only [Act.put, setIfInBounds_toArray, set_cons_succ, set_cons_zero]
     apply GM.walk_plain (by kernel_rfl) (by kernel_rfl) (fun γ => by rfl)
     ·intro γ L p wx h1 h2 hup hlo hS K hK
      have HK2 := Lib.hid hK
      have HS := Lib.hid hS
      clear hK h1 h2 hup hlo hS
      go_simp
      exact HK2.out _ HS.out
     try simp only [Act.put, setIfInBounds_toArray, set_cons_succ, set_cons_zero]
     apply GM.walk_plain (by kernel_rfl) (by kernel_rfl) (fun γ => by rfl)
     ·intro γ L p wx h1 h2 hup hlo hS K hK
      have HK2 := Lib.hid hK
      have HS := Lib.hid hS
      clear hK h1 h2 hup hlo hS
      go_simp
      exact HK2.out _ HS.out
     try simp only [Act.put, setIfInBounds_toArray, set_cons_succ, set_cons_zero]
     apply GM.walk_plain (by kernel_rfl) (by kernel_rfl) (fun γ => by rfl)
     ·intro γ L p wx h1 h2 hup hlo hS K hK
      have HK2 := Lib.hid hK
      have HS := Lib.hid hS
      clear hK h1 h2 hup hlo hS
      go_simp
      exact HK2.out _ HS.out
     try simp only [Act.put, setIfInBounds_toArray, set_cons_succ, set_cons_zero]
     apply GM.walk_plain (by kernel_rfl) (by kernel_rfl) (fun γ => by rfl)
     ·intro γ L p wx h1 h2 hup hlo hS K hK
      obtain ⟨b0, b1, b2, b3, b4, b5, b6, b7⟩ := boxRow (HBr14.out.next hS.1).r3
      have HK2 := Lib.hid hK
      have HS := Lib.hid hS
      clear hK h1 h2 hup hlo hS
      go_simp
      exact HK2.out _ HS.out
     try simp only [Act.put, setIfInBounds_toArray, set_cons_succ, set_cons_zero]
     apply GM.walk_plain (by kernel_rfl) (by kernel_rfl) (fun γ => by rfl)
     ·intro γ L p wx h1 h2 hup hlo hS K hK
      have s0 := cell_of_row _ _ 0 _ _ (0, 0) (HBr14.out.next hS.1).r1
      have s1 := cell_of_row _ _ 1 _ _ (0, 0) (HBr14.out.next hS.1).r1
      have s2 := cell_of_row _ _ 2 _ _ (0, 0) (HBr14.out.next hS.1).r1
      simp only [List.getElem?_toArray, List.getElem?_cons_zero, List.getElem?_cons_succ] at s0 s1 s2
      have HK2 := Lib.hid hK
      have HS := Lib.hid hS
      clear hK h1 h2 hup hlo hS
      go_simp
      exact HK2.out _ HS.out
     try simp only [Act.put, setIfInBounds_toArray, set_cons_succ, set_cons_zero]
     apply GM.walk_ghost (by kernel_rfl) (by kernel_rfl) (fun γ => by rfl)
     ·intro γ L p wx h1 h2 hup hlo hS K hK
      have HK2 := Lib.hid hK
      have HS := Lib.hid hS
      clear hK h1 h2 hS hup hlo
      go_simp
      go_at_call 19
      refine (FY.out A cap _ _ wx (HCX.out _ (HBr14.out.next HS.out.1).below) (HJC.out _ _ HJV.out |> Lib.hid).out).mono ?_
      rintro e w' ⟨pv', fv', lv', ev', rfl, hI', hb'⟩
      exact HK2.out _ _ ⟨HS.out.1.trans (hb'.mono HS.out.1.size), fun _ => ⟨pv', fv', lv', ev', hI'.mono (Nat.zero_le _), rfl⟩⟩
     try simp only [Act.put, setIfInBounds_toArray, set_cons_succ, set_cons_zero]
     apply GM.walk_plain (by kernel_rfl) (by kernel_rfl) (fun γ => by rfl)
     ·intro γ L p wx h1 h2 hup hlo hS K hK
      obtain ⟨q0, q1, q2, q3⟩ := imRowCells (HBr14.out.next hS.1).r2
      have HK2 := Lib.hid hK
      have HS := Lib.hid hS
      clear hK h1 h2 hup hlo hS
      go_simp
      exact HK2.out _ HS.out
     try simp only [Act.put, setIfInBounds_toArray, set_cons_succ, set_cons_zero]
     apply GM.walk_plain (by kernel_rfl) (by kernel_rfl) (fun γ => by rfl)
     ·intro γ L p wx h1 h2 hup hlo hS K hK
      obtain ⟨pv', fv', lv', ev', hIy, hy'⟩ := hS.2 (h2 11 (by kernel_rfl))
      have HIy := Lib.hid hIy
      have HK2 := Lib.hid hK
      have HS := Lib.hid hS
      clear hK h1 h2 hup hlo hS
      rw [hy'] at HK2 ⊢
      clear hy'
      clear hIy
      go_simp
      go_at_call 13; refine (FE.out _ _ _ _ _ _ _ _ _ _ wx HCU.out HIy.out.view (HP.out.below HS.out.1).view).mono ?_; rintro e w' ⟨rfl, hb'⟩; exact HK2.out _ ⟨HS.out.1.trans (hb'.mono HS.out.1.size), fun q => by obtain ⟨pv, fv, lv, ev, e1, e2⟩ := HS.out.2 q; exact ⟨pv, fv, lv, ev, e1.below hb', e2⟩⟩
     try simp only [Act.put, setIfInBounds_toArray, set_cons_succ, set_cons_zero]
     apply GM.walk_plain (by kernel_rfl) (by kernel_rfl) (fun γ => by rfl)
     ·intro γ L p wx h1 h2 hup hlo hS K hK
      have HK2 := Lib.hid hK
      have HS := Lib.hid hS
      clear hK h1 h2 hup hlo hS
      go_simp
      exact HK2.out _ HS.out
     try simp only [Act.put, setIfInBounds_toArray, set_cons_succ, set_cons_zero]
     apply GM.walk_plain (by kernel_rfl) (by kernel_rfl) (fun γ => by rfl)
     ·intro γ L p wx h1 h2 hup hlo hS K hK
      have HK2 := Lib.hid hK
      have HS := Lib.hid hS
      clear hK h1 h2 hup hlo hS
      go_simp
      exact HK2.out _ HS.out
     try simp only [Act.put, setIfInBounds_toArray, set_cons_succ, set_cons_zero]
     refine GhostV.walk_nil (fun γ L w15 hall hx => ?_)
     have hbl := (hx.done (fun t ht => by cases ht)).1
     clear hx hall
     generalize γ 11 = vg15 at *
     have HQ := Lib.hid (HQ.out.below hbl)
     have HB15 := Lib.hid (HBr14.out.next hbl)
     clear hbl HBr14
     obtain ⟨-, ⟨ea, eb, es⟩, nw, hRw, hjw⟩ := HSE.out _ _ HJV.out
     have hfs := HFL.out _ _ HJV.out
     have FAW := Lib.hid (fun pv fv lv ev wx hc h => FA.out A cap ⟨va, vb, vs⟩ pv fv lv ev m' ⟨5, 0, 0, 0, 1⟩ 100000 wx hc HJV.out (by decide) h)
     rw [hRw] at FAW
     simp only [St.agg, Rc.agg] at FAW
     generalize applyM m' ⟨5, 0, 0, 0, 1⟩ = my at *
     have HJW := Lib.hid hjw
     have HFS := Lib.hid hfs
     clear hRw hjw hfs
     have c0_0 : w15.cell? ⟨gy, 0, none⟩ = some (.slice Q1 m'.ph.length t1) := cell_of_row _ _ _ _ _ (0, 0) HB15.out.r0
     have c0_1 : w15.cell? ⟨gy, 1, none⟩ = some (.slice Q2 m'.fl.length t2) := cell_of_row _ _ _ _ _ (0, 0) HB15.out.r0
     have c0_2 : w15.cell? ⟨gy, 2, none⟩ = some (.slice Q3 m'.lv.length t3) := cell_of_row _ _ _ _ _ (0, 0) HB15.out.r0
     have c0_3 : w15.cell? ⟨gy, 3, none⟩ = some (.slice Q4 m'.en.length t4) := cell_of_row _ _ _ _ _ (0, 0) HB15.out.r0
     have c1_0 : w15.cell? ⟨gx, 0, none⟩ = some (.string va) := cell_of_row _ _ _ _ _ (0, 0) HB15.out.r1
     have c1_1 : w15.cell? ⟨gx, 1, none⟩ = some (.string vb) := cell_of_row _ _ _ _ _ (0, 0) HB15.out.r1
     have c1_2 : w15.cell? ⟨gx, 2, none⟩ = some (.int .i64 vs) := cell_of_row _ _ _ _ _ (0, 0) HB15.out.r1
     have c3_0 : w15.cell? ⟨u0.heap.size, 0, none⟩ = some (.int .i64 bf) := cell_of_row _ _ _ _ _ (0, 0) HB15.out.r3
     have c3_1 : w15.cell? ⟨u0.heap.size, 1, none⟩ = some (.int .i64 bd) := cell_of_row _ _ _ _ _ (0, 0) HB15.out.r3
     have c3_2 : w15.cell? ⟨u0.heap.size, 2, none⟩ = some (.int .i64 br) := cell_of_row _ _ _ _ _ (0, 0) HB15.out.r3
     have c3_3 : w15.cell? ⟨u0.heap.size, 3, none⟩ = some (.int .i64 bp) := cell_of_row _ _ _ _ _ (0, 0) HB15.out.r3
     have c3_4 : w15.cell? ⟨u0.heap.size, 4, none⟩ = some (.float .f64 be1) := cell_of_row _ _ _ _ _ (0, 0) HB15.out.r3
     have c3_5 : w15.cell? ⟨u0.heap.size, 5, none⟩ = some (.float .f64 be2) := cell_of_row _ _ _ _ _ (0, 0) HB15.out.r3
     have c3_6 : w15.cell? ⟨u0.heap.size, 6, none⟩ = some (.float .f64 be3) := cell_of_row _ _ _ _ _ (0, 0) HB15.out.r3
     have c3_7 : w15.cell? ⟨u0.heap.size, 7, none⟩ = some (.slice A ncs cap) := cell_of_row _ _ _ _ _ (0, 0) HB15.out.r3
     go_wp2_with fail
     refine (FAW.out _ _ _ _ _ (HCX.out _ HB15.out.below) HQ.out.view).mono ?_
     rintro e w16 ⟨pv, fv, lv, ev, rfl, hI0, hb16⟩
     have HB16 := Lib.hid (HB15.out.next hb16)
     clear c0_0 c0_1 c0_2 c0_3 c1_0 c1_1 c1_2 c3_0 c3_1 c3_2 c3_3 c3_4 c3_5 c3_6 c3_7 hb16 HB15
     obtain ⟨Y1, y1, rfl⟩ := own_slice hI0.p
     obtain ⟨Y2, y2, rfl⟩ := own_slice hI0.f
     obtain ⟨Y3, y3, rfl⟩ := own_slice hI0.l
     obtain ⟨Y4, y4, rfl⟩ := own_slice hI0.e
     have HIq := Lib.hid hI0
     clear hI0
     have ld0 : gy < w16.heap.size := (Array.getElem?_eq_some_iff.1 HB16.out.r0).1
     have ld1 : gx < w16.heap.size := (Array.getElem?_eq_some_iff.1 HB16.out.r1).1
     have ld2 : gp < w16.heap.size := (Array.getElem?_eq_some_iff.1 HB16.out.r2).1
     have ld3 : u0.heap.size < w16.heap.size := (Array.getElem?_eq_some_iff.1 HB16.out.r3).1
     have lwq : u0.heap.size ≤ w16.heap.size := HB16.out.below.size
     go_wp2_with (with_reducible show wpList _ _ _ (Oper.mk _ (.store 47 _ _) _ _ _ _ :: _) _ _; refine Hid.out ?_)
     refine Lib.hid ?_
     refine wpList_put rfl 47 _ _ rfl w16.heap.size #[.string ea, .string eb, .int .i64 es] _ 47 rfl rfl (heap_alloc2_old w16 _ _) (by kernel_rfl) rfl (by kernel_rfl) ?_
     intro wb hrb hgb
     have hbdb : Below w16.heap.size w16 wb := (((Below.refl w16.heap.size w16).alloc (Nat.le_refl _) _).alloc (by simp) _).grown hgb.out (by simp; omega) (fun k hk => by injection hk with hk; omega)
     have hrmb := (hgb.out.block (w16.heap.size + 1) (by simp) (by simp)).trans (heap_alloc2_new w16 _ _)
     go_wp2_with (with_reducible show wpList _ _ _ (Oper.mk _ (.store 32 _ _) _ _ _ _ :: _) _ _; refine Hid.out ?_)
     refine Lib.hid ?_
     refine wpList_put rfl 32 _ _ rfl (w16.heap.size + 1) #[.slice Y1 my.ph.length y1, .slice Y2 my.fl.length y2, .slice Y3 my.lv.length y3, .slice Y4 my.en.length y4] _ 32 rfl rfl hrmb (by kernel_rfl) rfl (by kernel_rfl) ?_
     intro w17 hrc hgc
     have hbdc : Below w16.heap.size w16 w17 := hbdb.grown hgc.out hbdb.size (fun k hk => by injection hk with hk; omega)
     have hrsc := (hgc.out.block w16.heap.size ((Array.getElem?_eq_some_iff.1 hrb.out).1) (by simp)).trans hrb.out
     have HY := Lib.hid ((HIq.out.below hbdc).mono (Nat.zero_le _))
     have HB17 : Hid (Bx u0 [(w16.heap.size + 1, .cells #[.slice Y1 my.ph.length y1, .slice Y2 my.fl.length y2, .slice Y3 my.lv.length y3, .slice Y4 my.en.length y4] 32 (0, 0)), (w16.heap.size, .cells #[.string ea, .string eb, .int .i64 es] 47 (0, 0)), (gy, .cells #[.slice Q1 m'.ph.length t1, .slice Q2 m'.fl.length t2, .slice Q3 m'.lv.length t3, .slice Q4 m'.en.length t4] 32 (0, 0)), (gx, .cells #[.string va, .string vb, .int .i64 vs] 47 (0, 0)), (gp, .cells #[.slice P1 m'.ph.length p1, .slice P2 m'.fl.length p2, .slice P3 m'.lv.length p3, .slice P4 m'.en.length p4] 32 (0, 0)), (u0.heap.size, .cells #[.int .i64 bf, .int .i64 bd, .int .i64 br, .int .i64 bp, .float .f64 be1, .float .f64 be2, .float .f64 be3, .slice A ncs cap] 26 (0, 0))] w17) := Lib.hid ⟨HB16.out.below.trans (hbdc.mono HB16.out.below.size), fun q hq => by rcases List.mem_cons.1 hq with rfl | hq; exact hrc.out; rcases List.mem_cons.1 hq with rfl | hq; exact hrsc; exact (HB16.out.next hbdc).rows q hq⟩
     clear hrb hgb hbdb hrmb hrc hgc hbdc hrsc HIq HB16
     generalize w16.heap.size + 1 = gy2 at *
     generalize w16.heap.size = gz at *
     have HBr17 : Hid (Bx u0 [(gy2, .cells #[.slice Y1 my.ph.length y1, .slice Y2 my.fl.length y2, .slice Y3 my.lv.length y3, .slice Y4 my.en.length y4] 32 (0, 0)), (gz, .cells #[.string ea, .string eb, .int .i64 es] 47 (0, 0)), (u0.heap.size, .cells #[.int .i64 bf, .int .i64 bd, .int .i64 br, .int .i64 bp, .float .f64 be1, .float .f64 be2, .float .f64 be3, .slice A ncs cap] 26 (0, 0))] w17) := Lib.hid (HB17.out.less (by simp only [List.mem_cons, List.not_mem_nil, or_false]; rintro p (rfl | rfl | rfl) <;> simp))
     clear HB17
     obtain ⟨fl1, fl2, fl3⟩ := HFS.out
     have hfl : 0 < my.fl.length := by omega
     obtain ⟨pf, rfl, -, hpf⟩ := own_some HY.out.f hfl
     have hfc := flag_cell HY.out.f fl3
     have HFC := Lib.hid (fun wx (h : Below w17.heap.size w17 wx) => (h.cell (p := ⟨pf, 0, none⟩) hpf).trans hfc)
     have HFG : Hid (decide ((0 : Int) < (my.fl.length : Int)) = true ∧ 0 < (my.fl.length : Int) ∧ decide (0 < my.fl.length) = true ∧ 0 < my.fl.length) := Lib.hid ⟨decide_eq_true (by omega), by omega, decide_eq_true (by omega), by omega⟩
     clear fl1 fl2 fl3 hfl hfc HFS hpf
     go_wp2_with fail
     refine ghostM [] (fun p γ L wx => Below w17.heap.size w17 wx ∧ (L 17 = true → ∃ pv fv lv ev, IOwn wx 0 pv fv lv ev my ∧ γ 17 = .agg #[pv, fv, lv, ev])) (by kernel_rfl) (by kernel_rfl) (fun γ => ⟨by exact ⟨rfl, rfl, rfl, Nat.le_refl _, fun _ _ => rfl⟩, fun h => absurd h (by decide)⟩) ?_
     apply GM.walk_plain (by kernel_rfl) (by kernel_rfl) (fun γ => by rfl)
     ·intro γ L p wx h1 h2 hup hlo hS K hK
      have HK2 := Lib.hid hK
      have HS := Lib.hid hS
      clear hK h1 h2 hup hlo hS
      go_simp
      exact HK2.out _ HS.out
     try simp only [Act.put, setIfInBounds_toArray, set_cons_succ, set_cons_zero]
     apply GM.walk_plain (by kernel_rfl) (by kernel_rfl) (fun γ => by rfl)
     ·intro γ L p wx h1 h2 hup hlo hS K hK
      have HK2 := Lib.hid hK
      have HS := Lib.hid hS
      clear hK h1 h2 hup hlo hS
      go_simp
      exact HK2.out _ HS.out
     try simp only [Act.put, setIfInBounds_toArray, set_cons_succ, set_cons_zero]
     apply GM.walk_plain (by kernel_rfl) (by kernel_rfl) (fun γ => by rfl)
     ·intro γ L p wx h1 h2 hup hlo hS K hK
      have HK2 := Lib.hid hK
      have HS := Lib.hid hS
      clear hK h1 h2 hup hlo hS
      go_simp
      exact HK2.out _ HS.out
     try simp only [Act.put, setIfInBounds_toArray, set_cons_succ, set_cons_zero]
     apply GM.walk_plain (by kernel_rfl) (by kernel_rfl) (fun γ => by rfl)
     ·intro γ L p wx h1 h2 hup hlo hS K hK
      have HK2 := Lib.hid hK
      have HS := Lib.hid hS
      clear hK h1 h2 hup hlo hS
      go_simp
      exact HK2.out _ HS.out
     try simp only [Act.put, setIfInBounds_toArray, set_cons_succ, set_cons_zero]
     apply GM.walk_plain (by kernel_rfl) (by kernel_rfl) (fun γ => by rfl)
     ·intro γ L p wx h1 h2 hup hlo hS K hK
      obtain ⟨q0, q1, q2, q3⟩ := imRowCells (HBr17.out.next hS.1).r0
      have HK2 := Lib.hid hK
      have HS := Lib.hid hS
      clear hK h1 h2 hup hlo hS
      go_simp
      exact HK2.out _ HS.out
     try simp only [Act.put, setIfInBounds_toArray, set_cons_succ, set_cons_zero]
     apply GM.walk_plain (by kernel_rfl) (by kernel_rfl) (fun γ => by rfl)
     ·intro γ L p wx h1 h2 hup hlo hS K hK
      have HK2 := Lib.hid hK
      have HS := Lib.hid hS
      clear hK h1 h2 hup hlo hS
      go_simp
      exact HK2.out _ HS.out
     try simp only [Act.put, setIfInBounds_toArray, set_cons_succ, set_cons_zero]
     apply GM.walk_plain (by kernel_rfl) (by kernel_rfl) (fun γ => by rfl)
     ·intro γ L p wx h1 h2 hup hlo hS K hK
      obtain ⟨hg1, hg2, hg3, hg4⟩ := HFG.out
      have HK2 := Lib.hid hK
      have HS := Lib.hid hS
      clear hK h1 h2 hup hlo hS
      go_simp
      exact HK2.out _ HS.out
     try simp only [Act.put, setIfInBounds_toArray, set_cons_succ, set_cons_zero]
     apply GM.walk_plain (by kernel_rfl) (by kernel_rfl) (fun γ => by rfl)
     ·intro γ L p wx h1 h2 hup hlo hS K hK
      have HK2 := Lib.hid hK
      have HS := Lib.hid hS
      clear hK h1 h2 hup hlo hS
      go_simp
      exact HK2.out _ HS.out
     try simp only [Act.put, setIfInBounds_toArray, set_cons_succ, set_cons_zero]
     apply GM.walk_plain (by kernel_rfl) (by kernel_rfl) (fun γ => by rfl)
     ·intro γ L p wx h1 h2 hup hlo hS K hK
      have HK2 := Lib.hid hK
      have HS := Lib.hid hS
      clear hK h1 h2 hup hlo hS
      go_simp
      exact HK2.out _ HS.out
     try simp only [Act.put, setIfInBounds_toArray, set_cons_succ, set_cons_zero]
     apply GM.walk_plain (by kernel_rfl) (by kernel_rfl) (fun γ => by rfl)
     ·intro γ L p wx h1 h2 hup hlo hS K hK
      have HK2 := Lib.hid hK
      have HS := Lib.hid hS
      clear hK h1 h2 hup hlo hS
      go_simp
      exact HK2.out _ HS.out
     try simp only [Act.put, setIfInBounds_toArray, set_cons_succ, set_cons_zero]
     apply GM.walk_plain (by kernel_rfl) (by kernel_rfl) (fun γ => by rfl)
     ·intro γ L p wx h1 h2 hup hlo hS K hK
      obtain ⟨q0, q1, q2, q3⟩ := imRowCells (HBr17.out.next hS.1).r0
      have HK2 := Lib.hid hK
      have HS := Lib.hid hS
      clear hK h1 h2 hup hlo hS
      go_simp
      exact HK2.out _ HS.out
     try simp only [Act.put, setIfInBounds_toArray, set_cons_succ, set_cons_zero]
     apply GM.walk_plain (by kernel_rfl) (by kernel_rfl) (fun γ => by rfl)
     ·intro γ L p wx h1 h2 hup hlo hS K hK
      obtain ⟨hg1, hg2, hg3, hg4⟩ := HFG.out
      have HK2 := Lib.hid hK
      have HS := Lib.hid hS
      clear hK h1 h2 hup hlo hS
      go_simp
      exact HK2.out _ HS.out
     try simp only [Act.put, setIfInBounds_toArray, set_cons_succ, set_cons_zero]
     apply GM.walk_plain (by kernel_rfl) (by kernel_rfl) (fun γ => by rfl)
     ·intro γ L p wx h1 h2 hup hlo hS K hK
      have hc := HFC.out _ hS.1
      have HK2 := Lib.hid hK
      have HS := Lib.hid hS
      clear hK h1 h2 hup hlo hS
      go_simp
      exact HK2.out _ HS.out
     try simp only [Act.put, setIfInBounds_toArray, set_cons_succ, set_cons_zero]
     apply GM.walk_plain (by kernel_rfl) (by kernel_rfl) (fun γ => by rfl)
     ·intro γ L p wx h1 h2 hup hlo hS K hK
      have HK2 := Lib.hid hK
      have HS := Lib.hid hS
      clear hK h1 h2 hup hlo hS
      go_simp
      exact HK2.out _ HS.out
     try simp only [Act.put, setIfInBounds_toArray, set_cons_succ, set_cons_zero]
     apply GM.walk_plain (by kernel_rfl) (by kernel_rfl) (fun γ => by rfl)
     ·intro γ L p wx h1 h2 hup hlo hS K hK
      have HK2 := Lib.hid hK
      have HS := Lib.hid hS
      clear hK h1 h2 hup hlo hS
      go_simp
      exact HK2.out _ HS.out
     try simp only [Act.put, setIfInBounds_toArray, set_cons_succ, set_cons_zero]
     apply GM.walk_plain (by kernel_rfl) (by kernel_rfl) (fun γ => by rfl)
     ·intro γ L p wx h1 h2 hup hlo hS K hK
      obtain ⟨b0, b1, b2, b3, b4, b5, b6, b7⟩ := boxRow (HBr17.out.next hS.1).r2
      have HK2 := Lib.hid hK
      have HS := Lib.hid hS
      clear hK h1 h2 hup hlo hS
      go_simp
      exact HK2.out _ HS.out
     try simp only [Act.put, setIfInBounds_toArray, set_cons_succ, set_cons_zero]
     apply GM.walk_plain (by kernel_rfl) (by kernel_rfl) (fun γ => by rfl)
     ·intro γ L p wx h1 h2 hup hlo hS K hK
      have s0 := cell_of_row _ _ 0 _ _ (0, 0) (HBr17.out.next hS.1).r1
      have s1 := cell_of_row _ _ 1 _ _ (0, 0) (HBr17.out.next hS.1).r1
      have s2 := cell_of_row _ _ 2 _ _ (0, 0) (HBr17.out.next hS.1).r1
      simp only [List.getElem?_toArray, List.getElem?_cons_zero, List.getElem?_cons_succ] at s0 s1 s2
      have HK2 := Lib.hid hK
      have HS := Lib.hid hS
      clear hK h1 h2 hup hlo hS
      go_simp
      exact HK2.out _ HS.out
     try simp only [Act.put, setIfInBounds_toArray, set_cons_succ, set_cons_zero]
     apply GM.walk_ghost (by kernel_rfl) (by kernel_rfl) (fun γ => by rfl)
     ·intro γ L p wx h1 h2 hup hlo hS K hK
      have HK2 := Lib.hid hK
      have HS := Lib.hid hS
      clear hK h1 h2 hS hup hlo
      go_simp
      go_at_call 19
      refine (FY.out A cap _ _ wx (HCX.out _ (HBr17.out.next HS.out.1).below) (HJC.out _ _ HJW.out |> Lib.hid).out).mono ?_
      rintro e w' ⟨pv', fv', lv', ev', rfl, hI', hb'⟩
      exact HK2.out _ _ ⟨HS.out.1.trans (hb'.mono HS.out.1.size), fun _ => ⟨pv', fv', lv', ev', hI'.mono (Nat.zero_le _), rfl⟩⟩
     try simp only [Act.put, setIfInBounds_toArray, set_cons_succ, set_cons_zero]
     apply GM.walk_plain (by kernel_rfl) (by kernel_rfl) (fun γ => by rfl)
     ·intro γ L p wx h1 h2 hup hlo hS K hK
      obtain ⟨q0, q1, q2, q3⟩ := imRowCells (HBr17.out.next hS.1).r0
      have HK2 := Lib.hid hK
      have HS := Lib.hid hS
      clear hK h1 h2 hup hlo hS
      go_simp
      exact HK2.out _ HS.out
     try simp only [Act.put, setIfInBounds_toArray, set_cons_succ, set_cons_zero]
     apply GM.walk_plain (by kernel_rfl) (by kernel_rfl) (fun γ => by rfl)
     ·intro γ L p wx h1 h2 hup hlo hS K hK
      obtain ⟨pv', fv', lv', ev', hIy, hy'⟩ := hS.2 (h2 17 (by kernel_rfl))
      have HIy := Lib.hid hIy
      have HK2 := Lib.hid hK
      have HS := Lib.hid hS
      clear hK h1 h2 hup hlo hS
      rw [hy'] at HK2 ⊢
      clear hy'
      clear hIy
      go_simp
      go_at_call 13; refine (FE.out _ _ _ _ _ _ _ _ _ _ wx (HJC.out _ _ HJW.out |> Lib.hid).out HIy.out.view (HY.out.below HS.out.1).view).mono ?_; rintro e w' ⟨rfl, hb'⟩; exact HK2.out _ ⟨HS.out.1.trans (hb'.mono HS.out.1.size), fun q => by obtain ⟨pv, fv, lv, ev, e1, e2⟩ := HS.out.2 q; exact ⟨pv, fv, lv, ev, e1.below hb', e2⟩⟩
     try simp only [Act.put, setIfInBounds_toArray, set_cons_succ, set_cons_zero]
     apply GM.walk_plain (by kernel_rfl) (by kernel_rfl) (fun γ => by rfl)
     ·intro γ L p wx h1 h2 hup hlo hS K hK
      have HK2 := Lib.hid hK
      have HS := Lib.hid hS
      clear hK h1 h2 hup hlo hS
      go_simp
      exact HK2.out _ HS.out
     try simp only [Act.put, setIfInBounds_toArray, set_cons_succ, set_cons_zero]
     apply GM.walk_plain (by kernel_rfl) (by kernel_rfl) (fun γ => by rfl)
     ·intro γ L p wx h1 h2 hup hlo hS K hK
      have HK2 := Lib.hid hK
      have HS := Lib.hid hS
      clear hK h1 h2 hup hlo hS
      go_simp
      exact HK2.out _ HS.out
     try simp only [Act.put, setIfInBounds_toArray, set_cons_succ, set_cons_zero]
     apply GM.walk_plain (by kernel_rfl) (by kernel_rfl) (fun γ => by rfl)
     ·intro γ L p wx h1 h2 hup hlo hS K hK
      have HZ := Lib.hid hS
      have HK2 := Lib.hid hK
      have HS := Lib.hid hS
      clear hK h1 h2 hup hlo hS
      clear HZ
      go_simp
      go_at_call 14; refine (FN.out _).mono ?_; rintro e w' ⟨rfl, hb'⟩; exact HK2.out _ ⟨HS.out.1.trans (hb'.mono HS.out.1.size), fun q => by obtain ⟨pv, fv, lv, ev, e1, e2⟩ := HS.out.2 q; exact ⟨pv, fv, lv, ev, e1.below hb', e2⟩⟩
     try simp only [Act.put, setIfInBounds_toArray, set_cons_succ, set_cons_zero]
     apply GM.walk_plain (by kernel_rfl) (by kernel_rfl) (fun γ => by rfl)
     ·intro γ L p wx h1 h2 hup hlo hS K hK
      have HK2 := Lib.hid hK
      have HS := Lib.hid hS
      clear hK h1 h2 hup hlo hS
      go_simp
      exact HK2.out _ HS.out
     try simp only [Act.put, setIfInBounds_toArray, set_cons_succ, set_cons_zero]
     apply GM.walk_plain (by kernel_rfl) (by kernel_rfl) (fun γ => by rfl)
     ·intro γ L p wx h1 h2 hup hlo hS K hK
      have HK2 := Lib.hid hK
      have HS := Lib.hid hS
      clear hK h1 h2 hup hlo hS
      go_simp
      exact HK2.out _ HS.out
     try simp only [Act.put, setIfInBounds_toArray, set_cons_succ, set_cons_zero]
     refine GhostV.walk_nil (fun γ L w18 hall hx => ?_)
     have hbl := (hx.done (fun t ht => by cases ht)).1
     clear hx hall
     generalize γ 17 = vg18 at *
     have HB18 := Lib.hid (HBr17.out.next hbl)
     clear hbl HBr17
     go_wp2_with fail
     go_ret
     exact ⟨rfl, HBW.out.below.trans (HB18.out.below.mono HBW.out.below.size)⟩
    ·go_wp2_with fail
     refine ghostM [] (fun p γ L wx => Below w11.heap.size w11 wx ∧ (L 9 = true → ∃ pv fv lv ev, IOwn wx 0 pv fv lv ev m' ∧ γ 9 = .agg #[pv, fv, lv, ev])) (by kernel_rfl) (by kernel_rfl) (fun γ => ⟨by exact ⟨rfl, rfl, rfl, Nat.le_refl _, fun _ _ => rfl⟩, fun h => absurd h (by decide)⟩) ?_
     apply GM.walk_plain (by kernel_rfl) (by kernel_rfl) (fun γ => by rfl)
     ·intro γ L p wx h1 h2 hup hlo hS K hK
      have HK2 := Lib.hid hK
      have HS := Lib.hid hS
      clear hK h1 h2 hup hlo hS
      go_simp
      exact HK2.out _ HS.out
     try simp only [Act.put, setIfInBounds_toArray, set_cons_succ, set_cons_zero]
     apply GM.walk_plain (by kernel_rfl) (by kernel_rfl) (fun γ => by rfl)
     ·intro γ L p wx h1 h2 hup hlo hS K hK
      have HK2 := Lib.hid hK
      have HS := Lib.hid hS
      clear hK h1 h2 hup hlo hS
      go_simp
      exact HK2.out _ HS.out
     try simp only [Act.put, setIfInBounds_toArray, set_cons_succ, set_cons_zero]
     apply GM.walk_plain (by kernel_rfl) (by kernel_rfl) (fun γ => by rfl)
     ·intro γ L p wx h1 h2 hup hlo hS K hK
      have HK2 := Lib.hid hK
      have HS := Lib.hid hS
      clear hK h1 h2 hup hlo hS
      go_simp
      exact HK2.out _ HS.out
     try simp only [Act.put, setIfInBounds_toArray, set_cons_succ, set_cons_zero]
     apply GM.walk_plain (by kernel_rfl) (by kernel_rfl) (fun γ => by rfl)
     ·intro γ L p wx h1 h2 hup hlo hS K hK
      have HK2 := Lib.hid hK
      have HS := Lib.hid hS
      clear hK h1 h2 hup hlo hS
      go_simp
      exact HK2.out _ HS.out
     try simp only [Act.put, setIfInBounds_toArray, set_cons_succ, set_cons_zero]
     apply GM.walk_plain (by kernel_rfl) (by kernel_rfl) (fun γ => by rfl)
     ·intro γ L p wx h1 h2 hup hlo hS K hK
      have HK2 := Lib.hid hK
      have HS := Lib.hid hS
      clear hK h1 h2 hup hlo hS
      go_simp
      exact HK2.out _ HS.out
     try simp only [Act.put, setIfInBounds_toArray, set_cons_succ, set_cons_zero]
     apply GM.walk_plain (by kernel_rfl) (by kernel_rfl) (fun γ => by rfl)
     ·intro γ L p wx h1 h2 hup hlo hS K hK
      have HK2 := Lib.hid hK
      have HS := Lib.hid hS
      clear hK h1 h2 hup hlo hS
      go_simp
      exact HK2.out _ HS.out
     try simp only [Act.put, setIfInBounds_toArray, set_cons_succ, set_cons_zero]
     apply GM.walk_plain (by kernel_rfl) (by kernel_rfl) (fun γ => by rfl)
     ·intro γ L p wx h1 h2 hup hlo hS K hK
      have HK2 := Lib.hid hK
      have HS := Lib.hid hS
      clear hK h1 h2 hup hlo hS
      go_simp
      exact HK2.out _ HS.out
     try simp only [Act.put, setIfInBounds_toArray, set_cons_succ, set_cons_zero]
     apply GM.walk_plain (by kernel_rfl) (by kernel_rfl) (fun γ => by rfl)
     ·intro γ L p wx h1 h2 hup hlo hS K hK
      obtain ⟨b0, b1, b2, b3, b4, b5, b6, b7⟩ := boxRow (HBr11.out.next hS.1).r2
      have HK2 := Lib.hid hK
      have HS := Lib.hid hS
      clear hK h1 h2 hup hlo hS
      go_simp
      exact HK2.out _ HS.out
     try simp only [Act.put, setIfInBounds_toArray, set_cons_succ, set_cons_zero]
     apply GM.walk_plain (by kernel_rfl) (by kernel_rfl) (fun γ => by rfl)
     ·intro γ L p wx h1 h2 hup hlo hS K hK
      have s0 := cell_of_row _ _ 0 _ _ (0, 0) (HBr11.out.next hS.1).r0
      have s1 := cell_of_row _ _ 1 _ _ (0, 0) (HBr11.out.next hS.1).r0
      have s2 := cell_of_row _ _ 2 _ _ (0, 0) (HBr11.out.next hS.1).r0
      simp only [List.getElem?_toArray, List.getElem?_cons_zero, List.getElem?_cons_succ] at s0 s1 s2
      have HK2 := Lib.hid hK
      have HS := Lib.hid hS
      clear hK h1 h2 hup hlo hS
      go_simp
      exact HK2.out _ HS.out
     try simp only [Act.put, setIfInBounds_toArray, set_cons_succ, set_cons_zero]
     apply GM.walk_ghost (by kernel_rfl) (by kernel_rfl) (fun γ => by rfl)
     ·intro γ L p wx h1 h2 hup hlo hS K hK
      have HK2 := Lib.hid hK
      have HS := Lib.hid hS
      clear hK h1 h2 hS hup hlo
      go_simp
      go_at_call 19
      refine (FY.out A cap _ _ wx (HCX.out _ (HBr11.out.next HS.out.1).below) HCU.out).mono ?_
      rintro e w' ⟨pv', fv', lv', ev', rfl, hI', hb'⟩
      exact HK2.out _ _ ⟨HS.out.1.trans (hb'.mono HS.out.1.size), fun _ => ⟨pv', fv', lv', ev', hI'.mono (Nat.zero_le _), rfl⟩⟩
     try simp only [Act.put, setIfInBounds_toArray, set_cons_succ, set_cons_zero]
     apply GM.walk_plain (by kernel_rfl) (by kernel_rfl) (fun γ => by rfl)
     ·intro γ L p wx h1 h2 hup hlo hS K hK
      obtain ⟨q0, q1, q2, q3⟩ := imRowCells (HBr11.out.next hS.1).r1
      have HK2 := Lib.hid hK
      have HS := Lib.hid hS
      clear hK h1 h2 hup hlo hS
      go_simp
      exact HK2.out _ HS.out
     try simp only [Act.put, setIfInBounds_toArray, set_cons_succ, set_cons_zero]
     apply GM.walk_plain (by kernel_rfl) (by kernel_rfl) (fun γ => by rfl)
     ·intro γ L p wx h1 h2 hup hlo hS K hK
      obtain ⟨pv', fv', lv', ev', hIy, hy'⟩ := hS.2 (h2 9 (by kernel_rfl))
      have HIy := Lib.hid hIy
      have HK2 := Lib.hid hK
      have HS := Lib.hid hS
      clear hK h1 h2 hup hlo hS
      rw [hy'] at HK2 ⊢
      clear hy'
      clear hIy
      go_simp
      go_at_call 13; refine (FE.out _ _ _ _ _ _ _ _ _ _ wx HCU.out HIy.out.view (HP.out.below HS.out.1).view).mono ?_; rintro e w' ⟨rfl, hb'⟩; exact HK2.out _ ⟨HS.out.1.trans (hb'.mono HS.out.1.size), fun q => by obtain ⟨pv, fv, lv, ev, e1, e2⟩ := HS.out.2 q; exact ⟨pv, fv, lv, ev, e1.below hb', e2⟩⟩
     try simp only [Act.put, setIfInBounds_toArray, set_cons_succ, set_cons_zero]
     apply GM.walk_plain (by kernel_rfl) (by kernel_rfl) (fun γ => by rfl)
     ·intro γ L p wx h1 h2 hup hlo hS K hK
      have HK2 := Lib.hid hK
      have HS := Lib.hid hS
      clear hK h1 h2 hup hlo hS
      go_simp
      exact HK2.out _ HS.out
     try simp only [Act.put, setIfInBounds_toArray, set_cons_succ, set_cons_zero]
     apply GM.walk_plain (by kernel_rfl) (by kernel_rfl) (fun γ => by rfl)
     ·intro γ L p wx h1 h2 hup hlo hS K hK
      have HK2 := Lib.hid hK
      have HS := Lib.hid hS
      clear hK h1 h2 hup hlo hS
      go_simp
      exact HK2.out _ HS.out
     try simp only [Act.put, setIfInBounds_toArray, set_cons_succ, set_cons_zero]
     refine GhostV.walk_nil (fun γ L w12 hall hx => ?_)
     have hbl := (hx.done (fun t ht => by cases ht)).1
     clear hx hall
     generalize γ 9 = vg12 at *
     have HP := Lib.hid (HP.out.below hbl)
     have HB12 := Lib.hid (HBr11.out.next hbl)
     clear hbl HBr11
     obtain ⟨⟨va, vb, vs⟩, nv, hRv, hjv⟩ := HSV.out
     have FC2 := Lib.hid (fun wx hc => FC.out A cap ⟨ua, ub, us⟩ m' 100000 wx hc HCU.out (by decide))
     rw [hRv] at FC2
     simp only [St.agg] at FC2
     have HJV := Lib.hid hjv
     clear hRv hjv HSV
     have c0_0 : w12.cell? ⟨gu, 0, none⟩ = some (.string ua) := cell_of_row _ _ _ _ _ (0, 0) HB12.out.r0
     have c0_1 : w12.cell? ⟨gu, 1, none⟩ = some (.string ub) := cell_of_row _ _ _ _ _ (0, 0) HB12.out.r0
     have c0_2 : w12.cell? ⟨gu, 2, none⟩ = some (.int .i64 us) := cell_of_row _ _ _ _ _ (0, 0) HB12.out.r0
     have c2_0 : w12.cell? ⟨u0.heap.size, 0, none⟩ = some (.int .i64 bf) := cell_of_row _ _ _ _ _ (0, 0) HB12.out.r2
     have c2_1 : w12.cell? ⟨u0.heap.size, 1, none⟩ = some (.int .i64 bd) := cell_of_row _ _ _ _ _ (0, 0) HB12.out.r2
     have c2_2 : w12.cell? ⟨u0.heap.size, 2, none⟩ = some (.int .i64 br) := cell_of_row _ _ _ _ _ (0, 0) HB12.out.r2
     have c2_3 : w12.cell? ⟨u0.heap.size, 3, none⟩ = some (.int .i64 bp) := cell_of_row _ _ _ _ _ (0, 0) HB12.out.r2
     have c2_4 : w12.cell? ⟨u0.heap.size, 4, none⟩ = some (.float .f64 be1) := cell_of_row _ _ _ _ _ (0, 0) HB12.out.r2
     have c2_5 : w12.cell? ⟨u0.heap.size, 5, none⟩ = some (.float .f64 be2) := cell_of_row _ _ _ _ _ (0, 0) HB12.out.r2
     have c2_6 : w12.cell? ⟨u0.heap.size, 6, none⟩ = some (.float .f64 be3) := cell_of_row _ _ _ _ _ (0, 0) HB12.out.r2
     have c2_7 : w12.cell? ⟨u0.heap.size, 7, none⟩ = some (.slice A ncs cap) := cell_of_row _ _ _ _ _ (0, 0) HB12.out.r2
     go_wp2_with fail
     refine (FC2.out _ (HCX.out _ HB12.out.below)).mono ?_
     rintro e w13 ⟨pv, fv, lv, ev, rfl, hI0, hb13⟩
     have HP := Lib.hid (HP.out.below hb13)
     have HB13 := Lib.hid (HB12.out.next hb13)
     clear c0_0 c0_1 c0_2 c2_0 c2_1 c2_2 c2_3 c2_4 c2_5 c2_6 c2_7 hb13 HB12
     obtain ⟨Q1, t1, rfl⟩ := own_slice hI0.p
     obtain ⟨Q2, t2, rfl⟩ := own_slice hI0.f
     obtain ⟨Q3, t3, rfl⟩ := own_slice hI0.l
     obtain ⟨Q4, t4, rfl⟩ := own_slice hI0.e
     have HIq := Lib.hid hI0
     clear hI0
     have ld0 : gu < w13.heap.size := (Array.getElem?_eq_some_iff.1 HB13.out.r0).1
     have ld1 : gp < w13.heap.size := (Array.getElem?_eq_some_iff.1 HB13.out.r1).1
     have ld2 : u0.heap.size < w13.heap.size := (Array.getElem?_eq_some_iff.1 HB13.out.r2).1
     have lwq : u0.heap.size ≤ w13.heap.size := HB13.out.below.size
     go_wp2_with (with_reducible show wpList _ _ _ (Oper.mk _ (.store 47 _ _) _ _ _ _ :: _) _ _; refine Hid.out ?_)
     refine Lib.hid ?_
     refine wpList_put rfl 47 _ _ rfl w13.heap.size #[.string va, .string vb, .int .i64 vs] _ 47 rfl rfl (heap_alloc2_old w13 _ _) (by kernel_rfl) rfl (by kernel_rfl) ?_
     intro wb hrb hgb
     have hbdb : Below w13.heap.size w13 wb := (((Below.refl w13.heap.size w13).alloc (Nat.le_refl _) _).alloc (by simp) _).grown hgb.out (by simp; omega) (fun k hk => by injection hk with hk; omega)
     have hrmb := (hgb.out.block (w13.heap.size + 1) (by simp) (by simp)).trans (heap_alloc2_new w13 _ _)
     go_wp2_with (with_reducible show wpList _ _ _ (Oper.mk _ (.store 32 _ _) _ _ _ _ :: _) _ _; refine Hid.out ?_)
     refine Lib.hid ?_
     refine wpList_put rfl 32 _ _ rfl (w13.heap.size + 1) #[.slice Q1 m'.ph.length t1, .slice Q2 m'.fl.length t2, .slice Q3 m'.lv.length t3, .slice Q4 m'.en.length t4] _ 32 rfl rfl hrmb (by kernel_rfl) rfl (by kernel_rfl) ?_
     intro w14 hrc hgc
     have hbdc : Below w13.heap.size w13 w14 := hbdb.grown hgc.out hbdb.size (fun k hk => by injection hk with hk; omega)
     have hrsc := (hgc.out.block w13.heap.size ((Array.getElem?_eq_some_iff.1 hrb.out).1) (by simp)).trans hrb.out
     have HQ := Lib.hid ((HIq.out.below hbdc).mono (Nat.zero_le _))
     have HP := Lib.hid (HP.out.below hbdc)
     have HB14 : Hid (Bx u0 [(w13.heap.size + 1, .cells #[.slice Q1 m'.ph.length t1, .slice Q2 m'.fl.length t2, .slice Q3 m'.lv.length t3, .slice Q4 m'.en.length t4] 32 (0, 0)), (w13.heap.size, .cells #[.string va, .string vb, .int .i64 vs] 47 (0, 0)), (gu, .cells #[.string ua, .string ub, .int .i64 us] 47 (0, 0)), (gp, .cells #[.slice P1 m'.ph.length p1, .slice P2 m'.fl.length p2, .slice P3 m'.lv.length p3, .slice P4 m'.en.length p4] 32 (0, 0)), (u0.heap.size, .cells #[.int .i64 bf, .int .i64 bd, .int .i64 br, .int .i64 bp, .float .f64 be1, .float .f64 be2, .float .f64 be3, .slice A ncs cap] 26 (0, 0))] w14) := Lib.hid ⟨HB13.out.below.trans (hbdc.mono HB13.out.below.size), fun q hq => by rcases List.mem_cons.1 hq with rfl | hq; exact hrc.out; rcases List.mem_cons.1 hq with rfl | hq; exact hrsc; exact (HB13.out.next hbdc).rows q hq⟩
     clear hrb hgb hbdb hrmb hrc hgc hbdc hrsc HIq HB13
     generalize w13.heap.size + 1 = gy at *
     generalize w13.heap.size = gx at *
     have HBr14 : Hid (Bx u0 [(gy, .cells #[.slice Q1 m'.ph.length t1, .slice Q2 m'.fl.length t2, .slice Q3 m'.lv.length t3, .slice Q4 m'.en.length t4] 32 (0, 0)), (gx, .cells #[.string va, .string vb, .int .i64 vs] 47 (0, 0)), (gp, .cells #[.slice P1 m'.ph.length p1, .slice P2 m'.fl.length p2, .slice P3 m'.lv.length p3, .slice P4 m'.en.length p4] 32 (0, 0)), (u0.heap.size, .cells #[.int .i64 bf, .int .i64 bd, .int .i64 br, .int .i64 bp, .float .f64 be1, .float .f64 be2, .float .f64 be3, .slice A ncs cap] 26 (0, 0))] w14) := Lib.hid (HB14.out.less (by simp only [List.mem_cons, List.not_mem_nil, or_false]; rintro p (rfl | rfl | rfl | rfl) <;> simp))
     clear HB14
     go_wp2_with fail
     refine ghostM [] (fun p γ L wx => Below w14.heap.size w14 wx ∧ (L 11 = true → ∃ pv fv lv ev, IOwn wx 0 pv fv lv ev m' ∧ γ 11 = .agg #[pv, fv, lv, ev])) (by kernel_rfl) (by kernel_rfl) (fun γ => ⟨by exact ⟨rfl, rfl, rfl, Nat.le_refl _, fun _ _ => rfl⟩, fun h => absurd h (by decide)⟩) ?_
     apply GM.walk_plain (by kernel_rfl) (by kernel_rfl) (fun γ => by rfl)
     ·intro γ L p wx h1 h2 hup hlo hS K hK
      have HK2 := Lib.hid hK
      have HS := Lib.hid hS
      clear hK h1 h2 hup hlo hS
      go_simp
      exact HK2.out _ HS.out
     try simp only [Act.put, setIfInBounds_toArray, set_cons_succ, set_cons_zero]
     apply GM.walk_plain (by kernel_rfl) (by kernel_rfl) (fun γ => by rfl)
     ·intro γ L p wx h1 h2 hup hlo hS K hK
      have HK2 := Lib.hid hK
      have HS := Lib.hid hS
      clear hK h1 h2 hup hlo hS
      go_simp
      exact HK2.out _ HS.out
     try simp only [Act.put, setIfInBounds_toArray, set_cons_succ, set_cons_zero]
     apply GM.walk_plain (by kernel_rfl) (by kernel_rfl) (fun γ => by rfl)
     ·intro γ L p wx h1 h2 hup hlo hS K hK
      have HK2 := Lib.hid hK
      have HS := Lib.hid hS
      clear hK h1 h2 hup hlo hS
      go_simp
      exact HK2.out _ HS.out
     try simp only [Act.put, setIfInBounds_toArray, set_cons_succ, set_cons_zero]
     apply GM.walk_plain (by kernel_rfl) (by kernel_rfl) (fun γ => by rfl)
     ·intro γ L p wx h1 h2 hup hlo hS K hK
      obtain ⟨q0, q1, q2, q3⟩ := imRowCells (HBr14.out.next hS.1).r0
      have HK2 := Lib.hid hK
      have HS := Lib.hid hS
      clear hK h1 h2 hup hlo hS
      go_simp
      exact HK2.out _ HS.out
     try simp only [Act.put, setIfInBounds_toArray, set_cons_succ, set_cons_zero]
     apply GM.walk_plain (by kernel_rfl) (by kernel_rfl) (fun γ => by rfl)
     ·intro γ L p wx h1 h2 hup hlo hS K hK
      obtain ⟨q0, q1, q2, q3⟩ := imRowCells (HBr14.out.next hS.1).r2
      have HK2 := Lib.hid hK
      have HS := Lib.hid hS
      clear hK h1 h2 hup hlo hS
      go_simp
      exact HK2.out _ HS.out
     try simp only [Act.put, setIfInBounds_toArray, set_cons_succ, set_cons_zero]
     apply GM.walk_plain (by kernel_rfl) (by kernel_rfl) (fun γ => by rfl)
     ·intro γ L p wx h1 h2 hup hlo hS K hK
      have HZ := Lib.hid hS
      have HK2 := Lib.hid hK
      have HS := Lib.hid hS
      clear hK h1 h2 hup hlo hS
      clear HZ
      go_simp
      go_at_call 13; refine (FE.out _ _ _ _ _ _ _ _ _ _ wx HCU.out (HQ.out.below HS.out.1).view (HP.out.below HS.out.1).view).mono ?_; rintro e w' ⟨rfl, hb'⟩; exact HK2.out _ ⟨HS.out.1.trans (hb'.mono HS.out.1.size), fun q => by obtain ⟨pv, fv, lv, ev, e1, e2⟩ := HS.out.2 q; exact ⟨pv, fv, lv, ev, e1.below hb', e2⟩⟩
     try simp only [Act.put, setIfInBounds_toArray, set_cons_succ, set_cons_zero]
     apply GM.walk_plain (by kernel_rfl) (by kernel_rfl) (fun γ => by rfl)
     ·intro γ L p wx h1 h2 hup hlo hS K hK
      have HK2 := Lib.hid hK
      have HS := Lib.hid hS
      clear hK h1 h2 hup hlo hS
      go_simp
      exact HK2.out _ HS.out
     try simp only [Act.put, setIfInBounds_toArray, set_cons_succ, set_cons_zero]
     apply GM.walk_plain (by kernel_rfl) (by kernel_rfl) (fun γ => by rfl)
     ·intro γ L p wx h1 h2 hup hlo hS K hK
      have HK2 := Lib.hid hK
      have HS := Lib.hid hS
      clear hK h1 h2 hup hlo hS
      go_simp
      exact HK2.out _ HS.out
     try simp only [Act.put, setIfInBounds_toArray, set_cons_succ, set_cons_zero]
     apply GM.walk_plain (by kernel_rfl) (by kernel_rfl) (fun γ => by rfl)
     ·intro γ L p wx h1 h2 hup hlo hS K hK
      have HK2 := Lib.hid hK
      have HS := Lib.hid hS
      clear hK h1 h2 hup hlo hS
      go_simp
      exact HK2.out _ HS.out
     try simp only [Act.put, setIfInBounds_toArray, set_cons_succ, set_cons_zero]
     apply GM.walk_plain (by kernel_rfl) (by kernel_rfl) (fun γ => by rfl)
     ·intro γ L p wx h1 h2 hup hlo hS K hK
      obtain ⟨b0, b1, b2, b3, b4, b5, b6, b7⟩ := boxRow (HBr14.out.next hS.1).r3
      have HK2 := Lib.hid hK
      have HS := Lib.hid hS
      clear hK h1 h2 hup hlo hS
      go_simp
      exact HK2.out _ HS.out
     try simp only [Act.put, setIfInBounds_toArray, set_cons_succ, set_cons_zero]
     apply GM.walk_plain (by kernel_rfl) (by kernel_rfl) (fun γ => by rfl)
     ·intro γ L p wx h1 h2 hup hlo hS K hK
      have s0 := cell_of_row _ _ 0 _ _ (0, 0) (HBr14.out.next hS.1).r1
      have s1 := cell_of_row _ _ 1 _ _ (0, 0) (HBr14.out.next hS.1).r1
      have s2 := cell_of_row _ _ 2 _ _ (0, 0) (HBr14.out.next hS.1).r1
      simp only [List.getElem?_toArray, List.getElem?_cons_zero, List.getElem?_cons_succ] at s0 s1 s2
      have HK2 := Lib.hid hK
      have HS := Lib.hid hS
      clear hK h1 h2 hup hlo hS
      go_simp
      exact HK2.out _ HS.out
     try simp only [Act.put, setIfInBounds_toArray, set_cons_succ, set_cons_zero]
     apply GM.walk_ghost (by kernel_rfl) (by kernel_rfl) (fun γ => by rfl)
     ·intro γ L p wx h1 h2 hup hlo hS K hK
      have HK2 := Lib.hid hK
      have HS := Lib.hid hS
      clear hK h1 h2 hS hup hlo
      go_simp
      go_at_call 19
      refine (FY.out A cap _ _ wx (HCX.out _ (HBr14.out.next HS.out.1).below) (HJC.out _ _ HJV.out |> Lib.hid).out).mono ?_
      rintro e w' ⟨pv', fv', lv', ev', rfl, hI', hb'⟩
      exact HK2.out _ _ ⟨HS.out.1.trans (hb'.mono HS.out.1.size), fun _ => ⟨pv', fv', lv', ev', hI'.mono (Nat.zero_le _), rfl⟩⟩
     try simp only [Act.put, setIfInBounds_toArray, set_cons_succ, set_cons_zero]
     apply GM.walk_plain (by kernel_rfl) (by kernel_rfl) (fun γ => by rfl)
     ·intro γ L p wx h1 h2 hup hlo hS K hK
      obtain ⟨q0, q1, q2, q3⟩ := imRowCells (HBr14.out.next hS.1).r2
      have HK2 := Lib.hid hK
      have HS := Lib.hid hS
      clear hK h1 h2 hup hlo hS
      go_simp
      exact HK2.out _ HS.out
     try simp only [Act.put, setIfInBounds_toArray, set_cons_succ, set_cons_zero]
     apply GM.walk_plain (by kernel_rfl) (by kernel_rfl) (fun γ => by rfl)
     ·intro γ L p wx h1 h2 hup hlo hS K hK
      obtain ⟨pv', fv', lv', ev', hIy, hy'⟩ := hS.2 (h2 11 (by kernel_rfl))
      have HIy := Lib.hid hIy
      have HK2 := Lib.hid hK
      have HS := Lib.hid hS
      clear hK h1 h2 hup hlo hS
      rw [hy'] at HK2 ⊢
      clear hy'
      clear hIy
      go_simp
      go_at_call 13; refine (FE.out _ _ _ _ _ _ _ _ _ _ wx HCU.out HIy.out.view (HP.out.below HS.out.1).view).mono ?_; rintro e w' ⟨rfl, hb'⟩; exact HK2.out _ ⟨HS.out.1.trans (hb'.mono HS.out.1.size), fun q => by obtain ⟨pv, fv, lv, ev, e1, e2⟩ := HS.out.2 q; exact ⟨pv, fv, lv, ev, e1.below hb', e2⟩⟩
     try simp only [Act.put, setIfInBounds_toArray, set_cons_succ, set_cons_zero]
     apply GM.walk_plain (by kernel_rfl) (by kernel_rfl) (fun γ => by rfl)
     ·intro γ L p wx h1 h2 hup hlo hS K hK
      have HK2 := Lib.hid hK
      have HS := Lib.hid hS
      clear hK h1 h2 hup hlo hS
      go_simp
      exact HK2.out _ HS.out
     try simp only [Act.put, setIfInBounds_toArray, set_cons_succ, set_cons_zero]
     apply GM.walk_plain (by kernel_rfl) (by kernel_rfl) (fun γ => by rfl)
     ·intro γ L p wx h1 h2 hup hlo hS K hK
      have HK2 := Lib.hid hK
      have HS := Lib.hid hS
      clear hK h1 h2 hup hlo hS
      go_simp
      exact HK2.out _ HS.out
     try simp only [Act.put, setIfInBounds_toArray, set_cons_succ, set_cons_zero]
     refine GhostV.walk_nil (fun γ L w15 hall hx => ?_)
     have hbl := (hx.done (fun t ht => by cases ht)).1
     clear hx hall
     generalize γ 11 = vg15 at *
     have HQ := Lib.hid (HQ.out.below hbl)
     have HB15 := Lib.hid (HBr14.out.next hbl)
     clear hbl HBr14
     obtain ⟨-, ⟨ea, eb, es⟩, nw, hRw, hjw⟩ := HSE.out _ _ HJV.out
     have hfs := HFL.out _ _ HJV.out
     have FAW := Lib.hid (fun pv fv lv ev wx hc h => FA.out A cap ⟨va, vb, vs⟩ pv fv lv ev m' ⟨5, 0, 0, 0, 1⟩ 100000 wx hc HJV.out (by decide) h)
     rw [hRw] at FAW
     simp only [St.agg, Rc.agg] at FAW
     generalize applyM m' ⟨5, 0, 0, 0, 1⟩ = my at *
     have HJW := Lib.hid hjw
     have HFS := Lib.hid hfs
     clear hRw hjw hfs
     have c0_0 : w15.cell? ⟨gy, 0, none⟩ = some (.slice Q1 m'.ph.length t1) := cell_of_row _ _ _ _ _ (0, 0) HB15.out.r0
     have c0_1 : w15.cell? ⟨gy, 1, none⟩ = some (.slice Q2 m'.fl.length t2) := cell_of_row _ _ _ _ _ (0, 0) HB15.out.r0
     have c0_2 : w15.cell? ⟨gy, 2, none⟩ = some (.slice Q3 m'.lv.length t3) := cell_of_row _ _ _ _ _ (0, 0) HB15.out.r0
     have c0_3 : w15.cell? ⟨gy, 3, none⟩ = some (.slice Q4 m'.en.length t4) := cell_of_row _ _ _ _ _ (0, 0) HB15.out.r0
     have c1_0 : w15.cell? ⟨gx, 0, none⟩ = some (.string va) := cell_of_row _ _ _ _ _ (0, 0) HB15.out.r1
     have c1_1 : w15.cell? ⟨gx, 1, none⟩ = some (.string vb) := cell_of_row _ _ _ _ _ (0, 0) HB15.out.r1
     have c1_2 : w15.cell? ⟨gx, 2, none⟩ = some (.int .i64 vs) := cell_of_row _ _ _ _ _ (0, 0) HB15.out.r1
     have c3_0 : w15.cell? ⟨u0.heap.size, 0, none⟩ = some (.int .i64 bf) := cell_of_row _ _ _ _ _ (0, 0) HB15.out.r3
     have c3_1 : w15.cell? ⟨u0.heap.size, 1, none⟩ = some (.int .i64 bd) := cell_of_row _ _ _ _ _ (0, 0) HB15.out.r3
     have c3_2 : w15.cell? ⟨u0.heap.size, 2, none⟩ = some (.int .i64 br) := cell_of_row _ _ _ _ _ (0, 0) HB15.out.r3
     have c3_3 : w15.cell? ⟨u0.heap.size, 3, none⟩ = some (.int .i64 bp) := cell_of_row _ _ _ _ _ (0, 0) HB15.out.r3
     have c3_4 : w15.cell? ⟨u0.heap.size, 4, none⟩ = some (.float .f64 be1) := cell_of_row _ _ _ _ _ (0, 0) HB15.out.r3
     have c3_5 : w15.cell? ⟨u0.heap.size, 5, none⟩ = some (.float .f64 be2) := cell_of_row _ _ _ _ _ (0, 0) HB15.out.r3
     have c3_6 : w15.cell? ⟨u0.heap.size, 6, none⟩ = some (.float .f64 be3) := cell_of_row _ _ _ _ _ (0, 0) HB15.out.r3
     have c3_7 : w15.cell? ⟨u0.heap.size, 7, none⟩ = some (.slice A ncs cap) := cell_of_row _ _ _ _ _ (0, 0) HB15.out.r3
     go_wp2_with fail
     refine (FAW.out _ _ _ _ _ (HCX.out _ HB15.out.below) HQ.out.view).mono ?_
     rintro e w16 ⟨pv, fv, lv, ev, rfl, hI0, hb16⟩
     have HB16 := Lib.hid (HB15.out.next hb16)
     clear c0_0 c0_1 c0_2 c0_3 c1_0 c1_1 c1_2 c3_0 c3_1 c3_2 c3_3 c3_4 c3_5 c3_6 c3_7 hb16 HB15
     obtain ⟨Y1, y1, rfl⟩ := own_slice hI0.p
     obtain ⟨Y2, y2, rfl⟩ := own_slice hI0.f
     obtain ⟨Y3, y3, rfl⟩ := own_slice hI0.l
     obtain ⟨Y4, y4, rfl⟩ := own_slice hI0.e
     have HIq := Lib.hid hI0
     clear hI0
     have ld0 : gy < w16.heap.size := (Array.getElem?_eq_some_iff.1 HB16.out.r0).1
     have ld1 : gx < w16.heap.size := (Array.getElem?_eq_some_iff.1 HB16.out.r1).1
     have ld2 : gp < w16.heap.size := (Array.getElem?_eq_some_iff.1 HB16.out.r2).1
     have ld3 : u0.heap.size < w16.heap.size := (Array.getElem?_eq_some_iff.1 HB16.out.r3).1
     have lwq : u0.heap.size ≤ w16.heap.size := HB16.out.below.size
     go_wp2_with (with_reducible show wpList _ _ _ (Oper.mk _ (.store 47 _ _) _ _ _ _ :: _) _ _; refine Hid.out ?_)
     refine Lib.hid ?_
     refine wpList_put rfl 47 _ _ rfl w16.heap.size #[.string ea, .string eb, .int .i64 es] _ 47 rfl rfl (heap_alloc2_old w16 _ _) (by kernel_rfl) rfl (by kernel_rfl) ?_
     intro wb hrb hgb
     have hbdb : Below w16.heap.size w16 wb := (((Below.refl w16.heap.size w16).alloc (Nat.le_refl _) _).alloc (by simp) _).grown hgb.out (by simp; omega) (fun k hk => by injection hk with hk; omega)
     have hrmb := (hgb.out.block (w16.heap.size + 1) (by simp) (by simp)).trans (heap_alloc2_new w16 _ _)
     go_wp2_with (with_reducible show wpList _ _ _ (Oper.mk _ (.store 32 _ _) _ _ _ _ :: _) _ _; refine Hid.out ?_)
     refine Lib.hid ?_
     refine wpList_put rfl 32 _ _ rfl (w16.heap.size + 1) #[.slice Y1 my.ph.length y1, .slice Y2 my.fl.length y2, .slice Y3 my.lv.length y3, .slice Y4 my.en.length y4] _ 32 rfl rfl hrmb (by kernel_rfl) rfl (by kernel_rfl) ?_
     intro w17 hrc hgc
     have hbdc : Below w16.heap.size w16 w17 := hbdb.grown hgc.out hbdb.size (fun k hk => by injection hk with hk; omega)
     have hrsc := (hgc.out.block w16.heap.size ((Array.getElem?_eq_some_iff.1 hrb.out).1) (by simp)).trans hrb.out
     have HY := Lib.hid ((HIq.out.below hbdc).mono (Nat.zero_le _))
     have HB17 : Hid (Bx u0 [(w16.heap.size + 1, .cells #[.slice Y1 my.ph.length y1, .slice Y2 my.fl.length y2, .slice Y3 my.lv.length y3, .slice Y4 my.en.length y4] 32 (0, 0)), (w16.heap.size, .cells #[.string ea, .string eb, .int .i64 es] 47 (0, 0)), (gy, .cells #[.slice Q1 m'.ph.length t1, .slice Q2 m'.fl.length t2, .slice Q3 m'.lv.length t3, .slice Q4 m'.en.length t4] 32 (0, 0)), (gx, .cells #[.string va, .string vb, .int .i64 vs] 47 (0, 0)), (gp, .cells #[.slice P1 m'.ph.length p1, .slice P2 m'.fl.length p2, .slice P3 m'.lv.length p3, .slice P4 m'.en.length p4] 32 (0, 0)), (u0.heap.size, .cells #[.int .i64 bf, .int .i64 bd, .int .i64 br, .int .i64 bp, .float .f64 be1, .float .f64 be2, .float .f64 be3, .slice A ncs cap] 26 (0, 0))] w17) := Lib.hid ⟨HB16.out.below.trans (hbdc.mono HB16.out.below.size), fun q hq => by rcases List.mem_cons.1 hq with rfl | hq; exact hrc.out; rcases List.mem_cons.1 hq with rfl | hq; exact hrsc; exact (HB16.out.next hbdc).rows q hq⟩
     clear hrb hgb hbdb hrmb hrc hgc hbdc hrsc HIq HB16
     generalize w16.heap.size + 1 = gy2 at *
     generalize w16.heap.size = gz at *
     have HBr17 : Hid (Bx u0 [(gy2, .cells #[.slice Y1 my.ph.length y1, .slice Y2 my.fl.length y2, .slice Y3 my.lv.length y3, .slice Y4 my.en.length y4] 32 (0, 0)), (gz, .cells #[.string ea, .string eb, .int .i64 es] 47 (0, 0)), (u0.heap.size, .cells #[.int .i64 bf, .int .i64 bd, .int .i64 br, .int .i64 bp, .float .f64 be1, .float .f64 be2, .float .f64 be3, .slice A ncs cap] 26 (0, 0))] w17) := Lib.hid (HB17.out.less (by simp only [List.mem_cons, List.not_mem_nil, or_false]; rintro p (rfl | rfl | rfl) <;> simp))
     clear HB17
     obtain ⟨fl1, fl2, fl3⟩ := HFS.out
     have hfl : 0 < my.fl.length := by omega
     obtain ⟨pf, rfl, -, hpf⟩ := own_some HY.out.f hfl
     have hfc := flag_cell HY.out.f fl3
     have HFC := Lib.hid (fun wx (h : Below w17.heap.size w17 wx) => (h.cell (p := ⟨pf, 0, none⟩) hpf).trans hfc)
     have HFG : Hid (decide ((0 : Int) < (my.fl.length : Int)) = true ∧ 0 < (my.fl.length : Int) ∧ decide (0 < my.fl.length) = true ∧ 0 < my.fl.length) := Lib.hid ⟨decide_eq_true (by omega), by omega, decide_eq_true (by omega), by omega⟩
     clear fl1 fl2 fl3 hfl hfc HFS hpf
     go_wp2_with fail
     refine ghostM [] (fun p γ L wx => Below w17.heap.size w17 wx ∧ (L 17 = true → ∃ pv fv lv ev, IOwn wx 0 pv fv lv ev my ∧ γ 17 = .agg #[pv, fv, lv, ev])) (by kernel_rfl) (by kernel_rfl) (fun γ => ⟨by exact ⟨rfl, rfl, rfl, Nat.le_refl _, fun _ _ => rfl⟩, fun h => absurd h (by decide)⟩) ?_
     apply GM.walk_plain (by kernel_rfl) (by kernel_rfl) (fun γ => by rfl)
     ·intro γ L p wx h1 h2 hup hlo hS K hK
      have HK2 := Lib.hid hK
      have HS := Lib.hid hS
      clear hK h1 h2 hup hlo hS
      go_simp
      exact HK2.out _ HS.out
     try simp only [Act.put, setIfInBounds_toArray, set_cons_succ, set_cons_zero]
     apply GM.walk_plain (by kernel_rfl) (by kernel_rfl) (fun γ => by rfl)
     ·intro γ L p wx h1 h2 hup hlo hS K hK
      have HK2 := Lib.hid hK
      have HS := Lib.hid hS
      clear hK h1 h2 hup hlo hS
      go_simp
      exact HK2.out _ HS.out
     try simp only [Act.put, setIfInBounds_toArray, set_cons_succ, set_cons_zero]
     apply GM.walk_plain (by kernel_rfl) (by kernel_rfl) (fun γ => by rfl)
     ·intro γ L p wx h1 h2 hup hlo hS K hK
      have HK2 := Lib.hid hK
      have HS := Lib.hid hS
      clear hK h1 h2 hup hlo hS
      go_simp
      exact HK2.out _ HS.out
     try simp only [Act.put, setIfInBounds_toArray, set_cons_succ, set_cons_zero]
     apply GM.walk_plain (by kernel_rfl) (by kernel_rfl) (fun γ => by rfl)
     ·intro γ L p wx h1 h2 hup hlo hS K hK
      have HK2 := Lib.hid hK
      have HS := Lib.hid hS
      clear hK h1 h2 hup hlo hS
      go_simp
      exact HK2.out _ HS.out
     try simp only [Act.put, setIfInBounds_toArray, set_cons_succ, set_cons_zero]
     apply GM.walk_plain (by kernel_rfl) (by kernel_rfl) (fun γ => by rfl)
     ·intro γ L p wx h1 h2 hup hlo hS K hK
      obtain ⟨q0, q1, q2, q3⟩ := imRowCells (HBr17.out.next hS.1).r0
      have HK2 := Lib.hid hK
      have HS := Lib.hid hS
      clear hK h1 h2 hup hlo hS
      go_simp
      exact HK2.out _ HS.out
     try simp only [Act.put, setIfInBounds_toArray, set_cons_succ, set_cons_zero]
     apply GM.walk_plain (by kernel_rfl) (by kernel_rfl) (fun γ => by rfl)
     ·intro γ L p wx h1 h2 hup hlo hS K hK
      have HK2 := Lib.hid hK
      have HS := Lib.hid hS
      clear hK h1 h2 hup hlo hS
      go_simp
      exact HK2.out _ HS.out
     try simp only [Act.put, setIfInBounds_toArray, set_cons_succ, set_cons_zero]
     apply GM.walk_plain (by kernel_rfl) (by kernel_rfl) (fun γ => by rfl)
     ·intro γ L p wx h1 h2 hup hlo hS K hK
      obtain ⟨hg1, hg2, hg3, hg4⟩ := HFG.out
      have HK2 := Lib.hid hK
      have HS := Lib.hid hS
      clear hK h1 h2 hup hlo hS
      go_simp
      exact HK2.out _ HS.out
     try simp only [Act.put, setIfInBounds_toArray, set_cons_succ, set_cons_zero]
     apply GM.walk_plain (by kernel_rfl) (by kernel_rfl) (fun γ => by rfl)
     ·intro γ L p wx h1 h2 hup hlo hS K hK
      have HK2 := Lib.hid hK
      have HS := Lib.hid hS
      clear hK h1 h2 hup hlo hS
      go_simp
      exact HK2.out _ HS.out
     try simp only [Act.put, setIfInBounds_toArray, set_cons_succ, set_cons_zero]
     apply GM.walk_plain (by kernel_rfl) (by kernel_rfl) (fun γ => by rfl)
     ·intro γ L p wx h1 h2 hup hlo hS K hK
      have HK2 := Lib.hid hK
      have HS := Lib.hid hS
      clear hK h1 h2 hup hlo hS
      go_simp
      exact HK2.out _ HS.out
     try simp only [Act.put, setIfInBounds_toArray, set_cons_succ, set_cons_zero]
     apply GM.walk_plain (by kernel_rfl) (by kernel_rfl) (fun γ => by rfl)
     ·intro γ L p wx h1 h2 hup hlo hS K hK
      have HK2 := Lib.hid hK
      have HS := Lib.hid hS
      clear hK h1 h2 hup hlo hS
      go_simp
      exact HK2.out _ HS.out
     try simp only [Act.put, setIfInBounds_toArray, set_cons_succ, set_cons_zero]
     apply GM.walk_plain (by kernel_rfl) (by kernel_rfl) (fun γ => by rfl)
     ·intro γ L p wx h1 h2 hup hlo hS K hK
      obtain ⟨q0, q1, q2, q3⟩ := imRowCells (HBr17.out.next hS.1).r0
      have HK2 := Lib.hid hK
      have HS := Lib.hid hS
      clear hK h1 h2 hup hlo hS
      go_simp
      exact HK2.out _ HS.out
     try simp only [Act.put, setIfInBounds_toArray, set_cons_succ, set_cons_zero]
     apply GM.walk_plain (by kernel_rfl) (by kernel_rfl) (fun γ => by rfl)
     ·intro γ L p wx h1 h2 hup hlo hS K hK
      obtain ⟨hg1, hg2, hg3, hg4⟩ := HFG.out
      have HK2 := Lib.hid hK
      have HS := Lib.hid hS
      clear hK h1 h2 hup hlo hS
      go_simp
      exact HK2.out _ HS.out
     try simp only [Act.put, setIfInBounds_toArray, set_cons_succ, set_cons_zero]
     apply GM.walk_plain (by kernel_rfl) (by kernel_rfl) (fun γ => by rfl)
     ·intro γ L p wx h1 h2 hup hlo hS K hK
      have hc := HFC.out _ hS.1
      have HK2 := Lib.hid hK
      have HS := Lib.hid hS
      clear hK h1 h2 hup hlo hS
      go_simp
      exact HK2.out _ HS.out
     try simp only [Act.put, setIfInBounds_toArray, set_cons_succ, set_cons_zero]
     apply GM.walk_plain (by kernel_rfl) (by kernel_rfl) (fun γ => by rfl)
     ·intro γ L p wx h1 h2 hup hlo hS K hK
      have HK2 := Lib.hid hK
      have HS := Lib.hid hS
      clear hK h1 h2 hup hlo hS
      go_simp
      exact HK2.out _ HS.out
     try simp only [Act.put, setIfInBounds_toArray, set_cons_succ, set_cons_zero]
     apply GM.walk_plain (by kernel_rfl) (by kernel_rfl) (fun γ => by rfl)
     ·intro γ L p wx h1 h2 hup hlo hS K hK
      have HK2 := Lib.hid hK
      have HS := Lib.hid hS
      clear hK h1 h2 hup hlo hS
      go_simp
      exact HK2.out _ HS.out
     try simp only [Act.put, setIfInBounds_toArray, set_cons_succ, set_cons_zero]
     apply GM.walk_plain (by kernel_rfl) (by kernel_rfl) (fun γ => by rfl)
     ·intro γ L p wx h1 h2 hup hlo hS K hK
      obtain ⟨b0, b1, b2, b3, b4, b5, b6, b7⟩ := boxRow (HBr17.out.next hS.1).r2
      have HK2 := Lib.hid hK
      have HS := Lib.hid hS
      clear hK h1 h2 hup hlo hS
      go_simp
      exact HK2.out _ HS.out
     try simp only [Act.put, setIfInBounds_toArray, set_cons_succ, set_cons_zero]
     apply GM.walk_plain (by kernel_rfl) (by kernel_rfl) (fun γ => by rfl)
     ·intro γ L p wx h1 h2 hup hlo hS K hK
      have s0 := cell_of_row _ _ 0 _ _ (0, 0) (HBr17.out.next hS.1).r1
      have s1 := cell_of_row _ _ 1 _ _ (0, 0) (HBr17.out.next hS.1).r1
      have s2 := cell_of_row _ _ 2 _ _ (0, 0) (HBr17.out.next hS.1).r1
      simp only [List.getElem?_toArray, List.getElem?_cons_zero, List.getElem?_cons_succ] at s0 s1 s2
      have HK2 := Lib.hid hK
      have HS := Lib.hid hS
      clear hK h1 h2 hup hlo hS
      go_simp
      exact HK2.out _ HS.out
     try simp only [Act.put, setIfInBounds_toArray, set_cons_succ, set_cons_zero]
     apply GM.walk_ghost (by kernel_rfl) (by kernel_rfl) (fun γ => by rfl)
     ·intro γ L p wx h1 h2 hup hlo hS K hK
      have HK2 := Lib.hid hK
      have HS := Lib.hid hS
      clear hK h1 h2 hS hup hlo
      go_simp
      go_at_call 19
      refine (FY.out A cap _ _ wx (HCX.out _ (HBr17.out.next HS.out.1).below) (HJC.out _ _ HJW.out |> Lib.hid).out).mono ?_
      rintro e w' ⟨pv', fv', lv', ev', rfl, hI', hb'⟩
      exact HK2.out _ _ ⟨HS.out.1.trans (hb'.mono HS.out.1.size), fun _ => ⟨pv', fv', lv', ev', hI'.mono (Nat.zero_le _), rfl⟩⟩
     try simp only [Act.put, setIfInBounds_toArray, set_cons_succ, set_cons_zero]
     apply GM.walk_plain (by kernel_rfl) (by kernel_rfl) (fun γ => by rfl)
     ·intro γ L p wx h1 h2 hup hlo hS K hK
      obtain ⟨q0, q1, q2, q3⟩ := imRowCells (HBr17.out.next hS.1).r0
      have HK2 := Lib.hid hK
      have HS := Lib.hid hS
      clear hK h1 h2 hup hlo hS
      go_simp
      exact HK2.out _ HS.out
     try simp only [Act.put, setIfInBounds_toArray, set_cons_succ, set_cons_zero]
     apply GM.walk_plain (by kernel_rfl) (by kernel_rfl) (fun γ => by rfl)
     ·intro γ L p wx h1 h2 hup hlo hS K hK
      obtain ⟨pv', fv', lv', ev', hIy, hy'⟩ := hS.2 (h2 17 (by kernel_rfl))
      have HIy := Lib.hid hIy
      have HK2 := Lib.hid hK
      have HS := Lib.hid hS
      clear hK h1 h2 hup hlo hS
      rw [hy'] at HK2 ⊢
      clear hy'
      clear hIy
      go_simp
      go_at_call 13; refine (FE.out _ _ _ _ _ _ _ _ _ _ wx (HJC.out _ _ HJW.out |> Lib.hid).out HIy.out.view (HY.out.below HS.out.1).view).mono ?_; rintro e w' ⟨rfl, hb'⟩; exact HK2.out _ ⟨HS.out.1.trans (hb'.mono HS.out.1.size), fun q => by obtain ⟨pv, fv, lv, ev, e1, e2⟩ := HS.out.2 q; exact ⟨pv, fv, lv, ev, e1.below hb', e2⟩⟩
     try simp only [Act.put, setIfInBounds_toArray, set_cons_succ, set_cons_zero]
     apply GM.walk_plain (by kernel_rfl) (by kernel_rfl) (fun γ => by rfl)
     ·intro γ L p wx h1 h2 hup hlo hS K hK
      have HK2 := Lib.hid hK
      have HS := Lib.hid hS
      clear hK h1 h2 hup hlo hS
      go_simp
      exact HK2.out _ HS.out
     try simp only [Act.put, setIfInBounds_toArray, set_cons_succ, set_cons_zero]
     apply GM.walk_plain (by kernel_rfl) (by kernel_rfl) (fun γ => by rfl)
     ·intro γ L p wx h1 h2 hup hlo hS K hK
      have HK2 := Lib.hid hK
      have HS := Lib.hid hS
      clear hK h1 h2 hup hlo hS
      go_simp
      exact HK2.out _ HS.out
     try simp only [Act.put, setIfInBounds_toArray, set_cons_succ, set_cons_zero]
     apply GM.walk_plain (by kernel_rfl) (by kernel_rfl) (fun γ => by rfl)
     ·intro γ L p wx h1 h2 hup hlo hS K hK
      have HZ := Lib.hid hS
      have HK2 := Lib.hid hK
      have HS := Lib.hid hS
      clear hK h1 h2 hup hlo hS
      clear HZ
      go_simp
      go_at_call 14; refine (FN.out _).mono ?_; rintro e w' ⟨rfl, hb'⟩; exact HK2.out _ ⟨HS.out.1.trans (hb'.mono HS.out.1.size), fun q => by obtain ⟨pv, fv, lv, ev, e1, e2⟩ := HS.out.2 q; exact ⟨pv, fv, lv, ev, e1.below hb', e2⟩⟩
     try simp only [Act.put, setIfInBounds_toArray, set_cons_succ, set_cons_zero]
     apply GM.walk_plain (by kernel_rfl) (by kernel_rfl) (fun γ => by rfl)
     ·intro γ L p wx h1 h2 hup hlo hS K hK
      have HK2 := Lib.hid hK
      have HS := Lib.hid hS
      clear hK h1 h2 hup hlo hS
      go_simp
      exact HK2.out _ HS.out
     try simp only [Act.put, setIfInBounds_toArray, set_cons_succ, set_cons_zero]
     apply GM.walk_plain (by kernel_rfl) (by kernel_rfl) (fun γ => by rfl)
     ·intro γ L p wx h1 h2 hup hlo hS K hK
      have HK2 := Lib.hid hK
      have HS := Lib.hid hS
      clear hK h1 h2 hup hlo hS
      go_simp
      exact HK2.out _ HS.out
     try simp only [Act.put, setIfInBounds_toArray, set_cons_succ, set_cons_zero]
     refine GhostV.walk_nil (fun γ L w18 hall hx => ?_)
     have hbl := (hx.done (fun t ht => by cases ht)).1
     clear hx hall
     generalize γ 17 = vg18 at *
     have HB18 := Lib.hid (HBr17.out.next hbl)
     clear hbl HBr17
     go_wp2_with fail
     go_ret
     exact ⟨rfl, HBW.out.below.trans (HB18.out.below.mono HBW.out.below.size)⟩
  ·obtain rfl : k = X.length := by omega
   have hlI : ¬ (X.length : Int) < (X.length : Int) := by omega
   go_wp2_with fail
   refine (FN.out _).mono ?_
   rintro e w31 ⟨rfl, hb31⟩
   have HB31 := Lib.hid (HBR.out.next hb31)
   clear hb31 HBR
   go_wp2_with fail
   go_ret
   exact ⟨rfl, HBW.out.below.trans (HB31.out.below.mono HBW.out.below.size)⟩

theorem lawLogSurvives_walk (x : Int) (v : Value) (ns : List Nat) (a b c : Nat) (w : World) (hx : (Lit.int .u8 x).wf = true) (hv : VV w v (u8s ns)) (hns : ∀ z ∈ ns, z < 256) (hnl : ns.length ≤ maxLen) (ha : a < 256) (hb : b < 256) (hc : c < 256) :
    Calls Try.prog 5 #[.int .u8 x, v, .agg #[.int .u8 a, .int .u8 b, .int .u8 c]] w fun e w' => e = .returned (.bool true) ∧ Below w.heap.size w w' := by
  obtain ⟨n, rfl, hn⟩ := u8_nat hx
  exact logSurvives_any n a b c ns v w hn ha hb hc hns hnl hv
set_option maxRecDepth 100000 in
theorem lawLogSurvives_lifted (os : Os) (started : os.Started) (H : Type) (enc : TypeId × Value → H) :
    ReturnsInHanded {} Try.checked os 5 .any (Rows.logSurvivesSpec.pre6 enc Try.prog Try.f5 Rows.logSurvivesRow.domain false) (Rows.logSurvivesSpec.post enc Try.prog Try.f5 false true false false) := by
  refine returnsInHanded_of_change (C := Try.checked) own started (by kernel_rfl) Try.func5
    (ChangeSpec.witness6 (enc := enc) (C := Try.checked) false ⟨#[], #[.int .u8 0, .slice none 0 0, .agg #[.int .u8 0, .int .u8 0, .int .u8 0]], []⟩ 8 (by kernel_rfl) (by kernel_rfl) (by kernel_rfl) (by kernel_rfl)) ?_
  intro W base args ds gs before hval0 hW hcnd _
  have hval : ∀ (j : Nat) t v, Try.f5.params[j]? = some t → args[j]? = some v → Value.okWide Try.prog W .any base t v := hval0
  have hW' := hW
  obtain ⟨p, q, hA0, hV, rfl, hfz, hnd⟩ := hW
  have hA : DataW.TrodAll enc Try.prog W 0 (fun _ => true) true Try.f5.params.toList args.toList ds p := hA0
  rw [Try.params5] at hA hval
  obtain ⟨v0, vs0, d0, ds0, p0, q0, hargs, rfl, rfl, h0, r0⟩ := trodAll_cons hA
  obtain ⟨v1, vs1, d1, ds1, p1, q1, rfl, rfl, rfl, h1, r1⟩ := trodAll_cons r0
  obtain ⟨v2, vs2, d2, ds2, p2, q2, rfl, rfl, rfl, h2, r2⟩ := trodAll_cons r1
  obtain ⟨rfl, rfl, rfl⟩ := trodAll_nil r2
  obtain rfl : args = #[v0, v1, v2] := by cases args; simp_all
  obtain ⟨rfl, rfl⟩ := trodVars_none hV
  obtain ⟨x0, rfl, rfl, rfl, g0⟩ := open_int Try.underlying5 (hval 0 5 v0 rfl rfl) h0
  have k1 := h1
  have lt1 : ∀ x ∈ p1, x.block < W.heap.size := by obtain ⟨m, hm⟩ := k1; exact DataW.trod_lt m _ _ _ hm
  obtain ⟨a1, l1, c1, rfl⟩ := okWide_slice Try.underlying22 (hval 1 22 v1 rfl rfl)
  obtain ⟨fuel1, hf1⟩ := h1
  obtain ⟨x1, g1, n1, m1⟩ := open_u8s hf1
  have k2 := h2
  have lt2 : ∀ x ∈ p2, x.block < W.heap.size := by obtain ⟨m, hm⟩ := k2; exact DataW.trod_lt m _ _ _ hm
  obtain ⟨x2, y2, z2, rfl, g2, m2, n2⟩ := open_au8_3 (hval 2 54 v2 rfl rfl) h2
  clear hA0 hval0
  refine (lawLogSurvives_walk x0 _ x1 x2 y2 z2 W g0 g1 n1 m1 g2 m2 n2).mono fun e W' ⟨he, bel⟩ => ?_
  subst he
  exact ⟨_, rfl, _, _, _, [], _, [], hW', trodAll_mk1 (shut_bool Try.underlying4 _), (trodAll_cons_mk (shut_int Try.underlying5 g0) (trodAll_cons_mk (Below.trod laidOut (by kernel_rfl) (of_decide_eq_true (by kernel_rfl)) k1 bel lt1) (trodAll_cons_mk (Below.trod laidOut (by kernel_rfl) (of_decide_eq_true (by kernel_rfl)) k2 bel lt2) trodAll_mk0))), rfl, bel.frame _, fun h => by cases h⟩

theorem lawLogSurvives_over : Rows.logSurvivesRow.holds Try.pinned (OpenSpec.ofChange Rows.logSurvivesSpec) :=
  OpenClaim.holds_of_wide 5 Try.f5 rfl rfl rfl rfl rfl rfl rfl ⟨rfl, rfl, rfl, rfl, rfl⟩ rfl rfl rfl rfl rfl (by kernel_rfl) Try.func5 (by kernel_rfl)
    (of_decide_eq_true (by kernel_rfl)) (by unfold Func.isWrapper; first | (rw [if_pos (by decide +kernel)]; kernel_rfl) | (rw [if_neg (by decide +kernel)]; exact ⟨rfl, rfl⟩))
    (fun os started H enc _ => lawLogSurvives_lifted os started H enc)

theorem logSurvives_holds : Rows.LogSurvivesSaid := lawLogSurvives_over
#print axioms logSurvives_holds
end Go.Proofs.Ytifbkoaggjikpaa
