/- The law FrameReads: what changed frames and any bytes stand for, or the first error, both ways. No condition. -/
import Derived.Test.YthbfpdkgbkpmiaaFrOpen
import Derived.Test.YthbfpdkgbkpmiaaOFitted
import Derived.Test.YthbfpdkgbkpmiaaFrRdsM
import Derived.Test.YthbfpdkgbkpmiaaChain
import Derived.Test.YthbfpdkgbkpmiaaFrameSane
import Derived.Test.YthbfpdkgbkpmiaaG42
import Derived.Test.YthbfpdkgbkpmiaaG52
namespace Go.Proofs.Ythbfpdkgbkpmiaa
open Go Go.RowKit Frm GhostV Go.ChangeShapes Go.WideShapes Go.ChangeAt

def pdIn (y : In) : Pd := ⟨fun w v => ∃ A2 cp2, v = inAgg y A2 cp2 ∧ CarsV w A2 y.cars, fun _ _ _ h hb => by obtain ⟨A2, cp2, hv, hc⟩ := h; exact ⟨A2, cp2, hv, hc.below hb⟩⟩
def pdOu (y : Ou) : Pd := ⟨fun w v => ∃ A2 cp2, v = ouAgg y A2 cp2 ∧ CosV w A2 y.cars, fun _ _ _ h hb => by obtain ⟨A2, cp2, hv, hc⟩ := h; exact ⟨A2, cp2, hv, hc.below hb⟩⟩

set_option linter.unusedVariables false
set_option linter.unusedSimpArgs false
set_option maxRecDepth 100000 in
set_option maxHeartbeats 8000000 in
theorem lawFrameReads_walk (n : Int) (y : In) (A' : Option Addr) (cp : Nat) (am : Option Addr) (ms : List UInt8) (cpm : Nat) (w : World) (hn : (Lit.int .u8 n).wf = true) (hy : saneIn y) (hv : CarsV w A' y.cars) (hml : y.cars.length ≤ maxLen) (hms : MBy w am ms) (hmx : ms.length ≤ maxLen) :
    Calls Try.prog 5 #[.int .u8 n, inAgg y A' cp, .slice am ms.length cpm] w fun e w' => e = .returned (.bool true) ∧ Below w.heap.size w w' := by
  obtain ⟨n8, rfl, hn8⟩ := u8_nat hn
  clear hn
  have HMX := Lib.hid hmx
  unfold maxLen at hml hmx
  have HMS := Lib.hid hms
  clear hms
  have FS := Lib.hid (fun w => frameSane_any w)
  have HV := Lib.hid hv
  have HY := Lib.hid hy
  clear hv hy
  obtain ⟨F, hF1, hF2, hFF⟩ : ∃ F : Nat, 2 ≤ F ∧ F ≤ 32 ∧ F = 2 + n8 % 31 := ⟨_, by omega, by omega, rfl⟩
  obtain ⟨C, hC1, hC2, hCC⟩ : ∃ C : Nat, 1 ≤ C ∧ C ≤ 8 ∧ C = 1 + n8 / 31 % 8 := ⟨_, by omega, by omega, rfl⟩
  have FBU := Lib.hid (fun w => building_any n8 w hn8)
  rw [← hFF, ← hCC] at FBU
  clear hFF hCC
  have hV := sample_valid (F : Int) C (by omega) (by omega) hC1 hC2
  have hcl : (sampleD (F : Int) C).cars.length = C := sampleCars_length _ _
  by_cases h20 : 20 < y.cars.length
  · clear FBU
    obtain ⟨pu, pd, kind, car, ys⟩ := y
    simp only [BldD.agg, inAgg] at *
    have hd1 : decide (20 < (ys.length : Int)) = true := decide_eq_true (by omega)
    go_enter Try.func5, Try.ntmps5
    go_wp2_with fail
    refine (FS.out _).mono ?_
    rintro e w2 ⟨rfl, hb⟩
    have HB := Lib.hid hb
    clear hb
    go_wp2_with fail
    go_ret
    exact ⟨rfl, ((Below.refl _ w).alloc (Nat.le_refl _) _).trans (HB.out.mono (by simp))⟩
  have hfok := fitIn_ok F C y hF1 hF2 hC1 hC2
  have hfsn := fitIn_sane F C y HY.out hF1 hF2 hC1 hC2
  have hfl : (fitIn F C y).cars.length = C := by show (fitCars F C y.cars).length = C; rw [fitCars_pad, List.length_map, padCars_length]
  have FFT := Lib.hid (fun A cap w (h : CarsV w A' y.cars) => fitted_any F C (sampleD (F : Int) C) A cap y A' cp w hF1 hF2 hC1 hC2 rfl hcl HY.out (by omega) h)
  have hres : inRes (sampleD (F : Int) C) (fitIn F C y) = .tuple #[.string ⟨(inText (sampleD (F : Int) C) (fitIn F C y)).toArray⟩, .int .i64 0] := by unfold inRes; rw [if_pos hfok]
  have FRI : Hid (∀ A cap v wx, CarsAt wx wx.heap.size A (sampleD (F : Int) C).cars → (pdIn (fitIn F C y)).1 wx v → Calls Try.prog 12 #[(sampleD (F : Int) C).agg A cap, v] wx fun e w' => e = .returned (.tuple #[.string ⟨(inText (sampleD (F : Int) C) (fitIn F C y)).toArray⟩, .int .i64 0]) ∧ Below wx.heap.size wx w') := Lib.hid (fun A cap v wx hc hp => by
    obtain ⟨A2, cp2, rfl, hv⟩ := hp
    have h := refIn_res (sampleD (F : Int) C) A cap (fitIn F C y) A2 cp2 wx (by omega) hc (by omega) hfsn hv
    rw [hres] at h
    exact h)
  obtain ⟨y0, hy0⟩ : ∃ y0 : Ou, y0 = ⟨⟨y.pu, y.pd, 0, 0, false, false, 7⟩, []⟩ := ⟨_, rfl⟩
  have hs0 : saneOu y0 := by rw [hy0]; exact ⟨⟨⟨HY.out.1, HY.out.2.1⟩, ⟨(by decide : (0 : Nat) < 4294967296), (by decide : (0 : Nat) < 4294967296)⟩, by show In64 7; unfold In64; omega⟩, fun c hc => by cases hc⟩
  have hgok := fitOu_ok F C y0 hF1 hF2 hC1 hC2
  have hgsn := fitOu_sane F C y0 hs0
  have hgl : (fitOu F C y0).cars.length = C := by show (fitCos F C y0.cars).length = C; rw [fitCos_pad, List.length_map, padCos_length]
  have FFO := Lib.hid (fun A cap w => ofitted_any F C (sampleD (F : Int) C) A cap y0 none 0 w hF1 hF2 hC1 hC2 rfl hcl hs0 (by rw [hy0]; exact Nat.zero_le _) (.inl (by rw [hy0])))
  have hreo : ouRes (sampleD (F : Int) C) (fitOu F C y0) = .tuple #[.string ⟨(ouText (sampleD (F : Int) C) (fitOu F C y0)).toArray⟩, .int .i64 0] := by unfold ouRes; rw [if_pos hgok]
  have FRO : Hid (∀ A cap v wx, CarsAt wx wx.heap.size A (sampleD (F : Int) C).cars → (pdOu (fitOu F C y0)).1 wx v → Calls Try.prog 17 #[(sampleD (F : Int) C).agg A cap, v] wx fun e w' => e = .returned (.tuple #[.string ⟨(ouText (sampleD (F : Int) C) (fitOu F C y0)).toArray⟩, .int .i64 0]) ∧ Below wx.heap.size wx w') := Lib.hid (fun A cap v wx hc hp => by
    obtain ⟨A2, cp2, rfl, hv⟩ := hp
    have h := refOut_res (sampleD (F : Int) C) A cap (fitOu F C y0) A2 cp2 wx hV (by omega) hc (by omega) hgsn hv
    rw [hreo] at h
    exact h)
  have HRD := Lib.hid (fun A cap s hs => reads_one (sampleD (F : Int) C) A cap s (by omega) hs)
  obtain ⟨L1, hL1, hz1⟩ : ∃ L1, inText (sampleD (F : Int) C) (fitIn F C y) = sealL L1 ∧ (sealL L1).length ≤ 1000 := by
    have hok := (isIn_iff _ _).1 hfok
    have ho := (frame_read hfsn hok).1.2.1
    refine ⟨_, rfl, ?_⟩
    have h2 : (⟨(inText (sampleD (F : Int) C) (fitIn F C y)).toArray⟩ : ByteArray).size = (inText (sampleD (F : Int) C) (fitIn F C y)).length := List.size_toArray ..
    rw [h2, hcl] at ho
    show (inText (sampleD (F : Int) C) (fitIn F C y)).length ≤ 1000
    omega
  obtain ⟨L2, hL2, hz2⟩ : ∃ L2, ouText (sampleD (F : Int) C) (fitOu F C y0) = sealL L2 ∧ (sealL L2).length ≤ 1000 := by
    have hok := (isOut_iff _ _ hV).1 hgok
    have ho := (frame_readO hgsn hok).1.2.1
    refine ⟨_, rfl, ?_⟩
    have h2 : (⟨(ouText (sampleD (F : Int) C) (fitOu F C y0)).toArray⟩ : ByteArray).size = (ouText (sampleD (F : Int) C) (fitOu F C y0)).length := List.size_toArray ..
    rw [h2, hcl] at ho
    show (ouText (sampleD (F : Int) C) (fitOu F C y0)).length ≤ 1000
    omega
  rw [hL1] at FRI
  rw [hL2] at FRO
  have hp1 : 2 ≤ (sealL L1).length := by rw [sealL_length]; omega
  have hp2 : 2 ≤ (sealL L2).length := by rw [sealL_length]; omega
  clear hL1 hL2 hreo hres hfok hfsn hfl hgok hgsn hgl hs0
  have hsc : (sampleD (F : Int) C).cars = sampleCars (F : Int) C := rfl
  rw [← hsc] at FBU
  clear hsc hcl hV
  generalize sealL L1 = M1 at *
  generalize sealL L2 = M2 at *
  generalize hx : sampleD (F : Int) C = x at *
  generalize fitIn F C y = fy at *
  generalize fitOu F C y0 = fo at *
  clear hx
  subst hy0
  obtain ⟨f, d, r, p, e1, e2, e3, cs⟩ := x
  obtain ⟨pu, pd, kind, car, ys⟩ := y
  simp only [BldD.agg, inAgg, ouAgg, List.length_nil] at FBU FFT FFO FRI FRO HRD h20 HV ⊢
  have hd1 : decide (20 < (ys.length : Int)) = false := decide_eq_false (by omega)
  go_enter Try.func5, Try.ntmps5
  go_wp2_with fail
  refine (FBU.out _).mono ?_
  rintro e w1 ⟨hb1, A, cap, rfl, hcars⟩
  have hsz0 : (w.alloc (.cells #[.int .u32 (pu : Int), .int .u32 (pd : Int), .int .i64 kind, .int .i64 car, .slice A' ys.length cp] 33)).heap.size = w.heap.size + 1 := by simp
  have hsz1 : w.heap.size + 1 ≤ w1.heap.size := by have := hb1.size; omega
  have I1 := Lib.hid ((hb1.block w.heap.size (by omega)).trans (heap_alloc_new w (.cells #[.int .u32 (pu : Int), .int .u32 (pd : Int), .int .i64 kind, .int .i64 car, .slice A' ys.length cp] 33)))
  have HB0 := Lib.hid (((Below.refl _ w).alloc (Nat.le_refl _) (.cells #[.int .u32 (pu : Int), .int .u32 (pd : Int), .int .i64 kind, .int .i64 car, .slice A' ys.length cp] 33)).trans (hb1.mono (by omega)))
  have HC := Lib.hid hcars
  clear hb1 hcars hsz0
  go_wp2_with fail
  have hbw := (Below.refl w1.heap.size w1).alloc (Nat.le_refl _) (.cells #[.int .i64 f, .int .i64 d, .int .i64 r, .int .i64 p, .float .f64 e1, .float .f64 e2, .float .f64 e3, .slice A cs.length cap] 25)
  have hzw : (w1.alloc (.cells #[.int .i64 f, .int .i64 d, .int .i64 r, .int .i64 p, .float .f64 e1, .float .f64 e2, .float .f64 e3, .slice A cs.length cap] 25)).heap.size = w1.heap.size + 1 := by simp
  have I := Lib.hid ((hbw.block w.heap.size (by omega)).trans I1.out)
  have X := Lib.hid (heap_alloc_new w1 (.cells #[.int .i64 f, .int .i64 d, .int .i64 r, .int .i64 p, .float .f64 e1, .float .f64 e2, .float .f64 e3, .slice A cs.length cap] 25))
  have HBW := Lib.hid (HB0.out.trans (hbw.mono HB0.out.size))
  have HCW := Lib.hid ((HC.out.below hbw).more (show w1.heap.size ≤ (w1.alloc (.cells #[.int .i64 f, .int .i64 d, .int .i64 r, .int .i64 p, .float .f64 e1, .float .f64 e2, .float .f64 e3, .slice A cs.length cap] 25)).heap.size by omega))
  have HVW := Lib.hid (HV.out.below HBW.out)
  clear I1 hbw HB0 HC HV
  generalize (w1.alloc (.cells #[.int .i64 f, .int .i64 d, .int .i64 r, .int .i64 p, .float .f64 e1, .float .f64 e2, .float .f64 e3, .slice A cs.length cap] 25)) = WW at *
  have hlX : w1.heap.size < WW.heap.size := by omega
  have hlI : w.heap.size < WW.heap.size := by omega
  refine GhostV.ghost (fun γ L wx => GP (WW) [(3, pdIn fy)] γ L wx) (by kernel_rfl) (by kernel_rfl) (fun γ => GP.start _ _ γ) ?_
  iterate 3
    apply GhostV.walk_const (fun γ => by rfl)
    · intro γ L wx h1 h2 hx K hK
      have xx0 := cell_of_row _ _ 0 _ _ (0, 0) ((hx.below.block w1.heap.size hlX).trans X.out)
      have xx1 := cell_of_row _ _ 1 _ _ (0, 0) ((hx.below.block w1.heap.size hlX).trans X.out)
      have xx2 := cell_of_row _ _ 2 _ _ (0, 0) ((hx.below.block w1.heap.size hlX).trans X.out)
      have xx3 := cell_of_row _ _ 3 _ _ (0, 0) ((hx.below.block w1.heap.size hlX).trans X.out)
      have xx4 := cell_of_row _ _ 4 _ _ (0, 0) ((hx.below.block w1.heap.size hlX).trans X.out)
      have xx5 := cell_of_row _ _ 5 _ _ (0, 0) ((hx.below.block w1.heap.size hlX).trans X.out)
      have xx6 := cell_of_row _ _ 6 _ _ (0, 0) ((hx.below.block w1.heap.size hlX).trans X.out)
      have xx7 := cell_of_row _ _ 7 _ _ (0, 0) ((hx.below.block w1.heap.size hlX).trans X.out)
      simp only [List.getElem?_toArray, List.getElem?_cons_zero, List.getElem?_cons_succ] at xx0 xx1 xx2 xx3 xx4 xx5 xx6 xx7
      have ii0 := cell_of_row _ _ 0 _ _ (0, 0) ((hx.below.block w.heap.size hlI).trans I.out)
      have ii1 := cell_of_row _ _ 1 _ _ (0, 0) ((hx.below.block w.heap.size hlI).trans I.out)
      have ii2 := cell_of_row _ _ 2 _ _ (0, 0) ((hx.below.block w.heap.size hlI).trans I.out)
      have ii3 := cell_of_row _ _ 3 _ _ (0, 0) ((hx.below.block w.heap.size hlI).trans I.out)
      have ii4 := cell_of_row _ _ 4 _ _ (0, 0) ((hx.below.block w.heap.size hlI).trans I.out)
      simp only [List.getElem?_toArray, List.getElem?_cons_zero, List.getElem?_cons_succ] at ii0 ii1 ii2 ii3 ii4
      have HK2 := Lib.hid hK
      have HX := Lib.hid hx
      have H2 := Lib.hid h2
      clear hK h1 h2 hx
      go_simp
      first
        | (go_at_call 12; refine (FRI.out A cap (γ 3) wx ((HCW.out.below HX.out.below).more HX.out.below.size) (HX.out.row (3, pdIn fy) (by simp) (H2.out 3 (by kernel_rfl)))).mono ?_; rintro e w' ⟨rfl, hb⟩; exact HK2.out _ (HX.out.next _ (by rfl) hb))
        | exact HK2.out _ (HX.out.next _ (by rfl) (Below.refl _ _))
    try simp only [Act.put, List.setIfInBounds_toArray, List.set_cons_succ, List.set_cons_zero]
  refine GhostV.walk_yes (fun b => b) (fun γ => by rfl) ?_ ?_
  · intro γ L wx h1 h2 hx K hK
    have xx0 := cell_of_row _ _ 0 _ _ (0, 0) ((hx.below.block w1.heap.size hlX).trans X.out)
    have xx1 := cell_of_row _ _ 1 _ _ (0, 0) ((hx.below.block w1.heap.size hlX).trans X.out)
    have xx2 := cell_of_row _ _ 2 _ _ (0, 0) ((hx.below.block w1.heap.size hlX).trans X.out)
    have xx3 := cell_of_row _ _ 3 _ _ (0, 0) ((hx.below.block w1.heap.size hlX).trans X.out)
    have xx4 := cell_of_row _ _ 4 _ _ (0, 0) ((hx.below.block w1.heap.size hlX).trans X.out)
    have xx5 := cell_of_row _ _ 5 _ _ (0, 0) ((hx.below.block w1.heap.size hlX).trans X.out)
    have xx6 := cell_of_row _ _ 6 _ _ (0, 0) ((hx.below.block w1.heap.size hlX).trans X.out)
    have xx7 := cell_of_row _ _ 7 _ _ (0, 0) ((hx.below.block w1.heap.size hlX).trans X.out)
    simp only [List.getElem?_toArray, List.getElem?_cons_zero, List.getElem?_cons_succ] at xx0 xx1 xx2 xx3 xx4 xx5 xx6 xx7
    have ii0 := cell_of_row _ _ 0 _ _ (0, 0) ((hx.below.block w.heap.size hlI).trans I.out)
    have ii1 := cell_of_row _ _ 1 _ _ (0, 0) ((hx.below.block w.heap.size hlI).trans I.out)
    have ii2 := cell_of_row _ _ 2 _ _ (0, 0) ((hx.below.block w.heap.size hlI).trans I.out)
    have ii3 := cell_of_row _ _ 3 _ _ (0, 0) ((hx.below.block w.heap.size hlI).trans I.out)
    have ii4 := cell_of_row _ _ 4 _ _ (0, 0) ((hx.below.block w.heap.size hlI).trans I.out)
    simp only [List.getElem?_toArray, List.getElem?_cons_zero, List.getElem?_cons_succ] at ii0 ii1 ii2 ii3 ii4
    have HK2 := Lib.hid hK
    have HX := Lib.hid hx
    have H2 := Lib.hid h2
    clear hK h1 h2 hx
    go_simp
    (go_at_call 10; refine (FFT.out A cap wx (HVW.out.below HX.out.below)).mono ?_; rintro e w' ⟨hb, A2, cp2, rfl, hcv⟩; exact HK2.out _ _ (HX.out.make (by simp only [List.mem_cons, List.not_mem_nil, or_false]; rintro d rfl h; exact ⟨A2, cp2, rfl, hcv⟩) hb))
  iterate 6
    try simp only [Act.put, List.setIfInBounds_toArray, List.set_cons_succ, List.set_cons_zero]
    apply GhostV.walk_const (fun γ => by rfl)
    · intro γ L wx h1 h2 hx K hK
      have xx0 := cell_of_row _ _ 0 _ _ (0, 0) ((hx.below.block w1.heap.size hlX).trans X.out)
      have xx1 := cell_of_row _ _ 1 _ _ (0, 0) ((hx.below.block w1.heap.size hlX).trans X.out)
      have xx2 := cell_of_row _ _ 2 _ _ (0, 0) ((hx.below.block w1.heap.size hlX).trans X.out)
      have xx3 := cell_of_row _ _ 3 _ _ (0, 0) ((hx.below.block w1.heap.size hlX).trans X.out)
      have xx4 := cell_of_row _ _ 4 _ _ (0, 0) ((hx.below.block w1.heap.size hlX).trans X.out)
      have xx5 := cell_of_row _ _ 5 _ _ (0, 0) ((hx.below.block w1.heap.size hlX).trans X.out)
      have xx6 := cell_of_row _ _ 6 _ _ (0, 0) ((hx.below.block w1.heap.size hlX).trans X.out)
      have xx7 := cell_of_row _ _ 7 _ _ (0, 0) ((hx.below.block w1.heap.size hlX).trans X.out)
      simp only [List.getElem?_toArray, List.getElem?_cons_zero, List.getElem?_cons_succ] at xx0 xx1 xx2 xx3 xx4 xx5 xx6 xx7
      have ii0 := cell_of_row _ _ 0 _ _ (0, 0) ((hx.below.block w.heap.size hlI).trans I.out)
      have ii1 := cell_of_row _ _ 1 _ _ (0, 0) ((hx.below.block w.heap.size hlI).trans I.out)
      have ii2 := cell_of_row _ _ 2 _ _ (0, 0) ((hx.below.block w.heap.size hlI).trans I.out)
      have ii3 := cell_of_row _ _ 3 _ _ (0, 0) ((hx.below.block w.heap.size hlI).trans I.out)
      have ii4 := cell_of_row _ _ 4 _ _ (0, 0) ((hx.below.block w.heap.size hlI).trans I.out)
      simp only [List.getElem?_toArray, List.getElem?_cons_zero, List.getElem?_cons_succ] at ii0 ii1 ii2 ii3 ii4
      have HK2 := Lib.hid hK
      have HX := Lib.hid hx
      have H2 := Lib.hid h2
      clear hK h1 h2 hx
      go_simp
      first
        | (go_at_call 12; refine (FRI.out A cap (γ 3) wx ((HCW.out.below HX.out.below).more HX.out.below.size) (HX.out.row (3, pdIn fy) (by simp) (H2.out 3 (by kernel_rfl)))).mono ?_; rintro e w' ⟨rfl, hb⟩; exact HK2.out _ (HX.out.next _ (by rfl) hb))
        | exact HK2.out _ (HX.out.next _ (by rfl) (Below.refl _ _))
  try simp only [Act.put, List.setIfInBounds_toArray, List.set_cons_succ, List.set_cons_zero]
  refine GhostV.walk_nil (fun γ L w3 hall hG3 => ?_)
  have HB3 := Lib.hid hG3.below
  clear hG3 hall
  generalize γ 3 = gh3
  have X3 := Lib.hid ((HB3.out.block w1.heap.size hlX).trans X.out)
  have I3 := Lib.hid ((HB3.out.block w.heap.size hlI).trans I.out)
  have hz3 := HB3.out.size
  have HC3 := Lib.hid ((HCW.out.below HB3.out).more hz3)
  have HBW3 := Lib.hid (HBW.out.trans (HB3.out.mono HBW.out.size))
  have mlX : w1.heap.size < w3.heap.size := by omega
  have mlI : w.heap.size < w3.heap.size := by omega
  clear X I HB3 hlX hlI HCW HBW FRI FFT
  go_wp2_with fail
  refine GhostV.ghost (fun γ L wx => GP (w3) [(5, pdOu fo)] γ L wx) (by kernel_rfl) (by kernel_rfl) (fun γ => GP.start _ _ γ) ?_
  iterate 5
    apply GhostV.walk_const (fun γ => by rfl)
    · intro γ L wx h1 h2 hx K hK
      have xx0 := cell_of_row _ _ 0 _ _ (0, 0) ((hx.below.block w1.heap.size mlX).trans X3.out)
      have xx1 := cell_of_row _ _ 1 _ _ (0, 0) ((hx.below.block w1.heap.size mlX).trans X3.out)
      have xx2 := cell_of_row _ _ 2 _ _ (0, 0) ((hx.below.block w1.heap.size mlX).trans X3.out)
      have xx3 := cell_of_row _ _ 3 _ _ (0, 0) ((hx.below.block w1.heap.size mlX).trans X3.out)
      have xx4 := cell_of_row _ _ 4 _ _ (0, 0) ((hx.below.block w1.heap.size mlX).trans X3.out)
      have xx5 := cell_of_row _ _ 5 _ _ (0, 0) ((hx.below.block w1.heap.size mlX).trans X3.out)
      have xx6 := cell_of_row _ _ 6 _ _ (0, 0) ((hx.below.block w1.heap.size mlX).trans X3.out)
      have xx7 := cell_of_row _ _ 7 _ _ (0, 0) ((hx.below.block w1.heap.size mlX).trans X3.out)
      simp only [List.getElem?_toArray, List.getElem?_cons_zero, List.getElem?_cons_succ] at xx0 xx1 xx2 xx3 xx4 xx5 xx6 xx7
      have ii0 := cell_of_row _ _ 0 _ _ (0, 0) ((hx.below.block w.heap.size mlI).trans I3.out)
      have ii1 := cell_of_row _ _ 1 _ _ (0, 0) ((hx.below.block w.heap.size mlI).trans I3.out)
      have ii2 := cell_of_row _ _ 2 _ _ (0, 0) ((hx.below.block w.heap.size mlI).trans I3.out)
      have ii3 := cell_of_row _ _ 3 _ _ (0, 0) ((hx.below.block w.heap.size mlI).trans I3.out)
      have ii4 := cell_of_row _ _ 4 _ _ (0, 0) ((hx.below.block w.heap.size mlI).trans I3.out)
      simp only [List.getElem?_toArray, List.getElem?_cons_zero, List.getElem?_cons_succ] at ii0 ii1 ii2 ii3 ii4
      have HK2 := Lib.hid hK
      have HX := Lib.hid hx
      have H2 := Lib.hid h2
      clear hK h1 h2 hx
      go_simp
      first
        | (go_at_call 17; refine (FRO.out A cap (γ 5) wx ((HC3.out.below HX.out.below).more HX.out.below.size) (HX.out.row (5, pdOu fo) (by simp) (H2.out 5 (by kernel_rfl)))).mono ?_; rintro e w' ⟨rfl, hb⟩; exact HK2.out _ (HX.out.next _ (by rfl) hb))
        | exact HK2.out _ (HX.out.next _ (by rfl) (Below.refl _ _))
    try simp only [Act.put, List.setIfInBounds_toArray, List.set_cons_succ, List.set_cons_zero]
  refine GhostV.walk_yes (fun b => b) (fun γ => by rfl) ?_ ?_
  · intro γ L wx h1 h2 hx K hK
    have xx0 := cell_of_row _ _ 0 _ _ (0, 0) ((hx.below.block w1.heap.size mlX).trans X3.out)
    have xx1 := cell_of_row _ _ 1 _ _ (0, 0) ((hx.below.block w1.heap.size mlX).trans X3.out)
    have xx2 := cell_of_row _ _ 2 _ _ (0, 0) ((hx.below.block w1.heap.size mlX).trans X3.out)
    have xx3 := cell_of_row _ _ 3 _ _ (0, 0) ((hx.below.block w1.heap.size mlX).trans X3.out)
    have xx4 := cell_of_row _ _ 4 _ _ (0, 0) ((hx.below.block w1.heap.size mlX).trans X3.out)
    have xx5 := cell_of_row _ _ 5 _ _ (0, 0) ((hx.below.block w1.heap.size mlX).trans X3.out)
    have xx6 := cell_of_row _ _ 6 _ _ (0, 0) ((hx.below.block w1.heap.size mlX).trans X3.out)
    have xx7 := cell_of_row _ _ 7 _ _ (0, 0) ((hx.below.block w1.heap.size mlX).trans X3.out)
    simp only [List.getElem?_toArray, List.getElem?_cons_zero, List.getElem?_cons_succ] at xx0 xx1 xx2 xx3 xx4 xx5 xx6 xx7
    have ii0 := cell_of_row _ _ 0 _ _ (0, 0) ((hx.below.block w.heap.size mlI).trans I3.out)
    have ii1 := cell_of_row _ _ 1 _ _ (0, 0) ((hx.below.block w.heap.size mlI).trans I3.out)
    have ii2 := cell_of_row _ _ 2 _ _ (0, 0) ((hx.below.block w.heap.size mlI).trans I3.out)
    have ii3 := cell_of_row _ _ 3 _ _ (0, 0) ((hx.below.block w.heap.size mlI).trans I3.out)
    have ii4 := cell_of_row _ _ 4 _ _ (0, 0) ((hx.below.block w.heap.size mlI).trans I3.out)
    simp only [List.getElem?_toArray, List.getElem?_cons_zero, List.getElem?_cons_succ] at ii0 ii1 ii2 ii3 ii4
    have HK2 := Lib.hid hK
    have HX := Lib.hid hx
    have H2 := Lib.hid h2
    clear hK h1 h2 hx
    go_simp
    (go_at_call 15; refine (FFO.out A cap wx).mono ?_; rintro e w' ⟨hb, A2, cp2, rfl, hcv⟩; exact HK2.out _ _ (HX.out.make (by simp only [List.mem_cons, List.not_mem_nil, or_false]; rintro d rfl h; exact ⟨A2, cp2, rfl, hcv⟩) hb))
  iterate 6
    try simp only [Act.put, List.setIfInBounds_toArray, List.set_cons_succ, List.set_cons_zero]
    apply GhostV.walk_const (fun γ => by rfl)
    · intro γ L wx h1 h2 hx K hK
      have xx0 := cell_of_row _ _ 0 _ _ (0, 0) ((hx.below.block w1.heap.size mlX).trans X3.out)
      have xx1 := cell_of_row _ _ 1 _ _ (0, 0) ((hx.below.block w1.heap.size mlX).trans X3.out)
      have xx2 := cell_of_row _ _ 2 _ _ (0, 0) ((hx.below.block w1.heap.size mlX).trans X3.out)
      have xx3 := cell_of_row _ _ 3 _ _ (0, 0) ((hx.below.block w1.heap.size mlX).trans X3.out)
      have xx4 := cell_of_row _ _ 4 _ _ (0, 0) ((hx.below.block w1.heap.size mlX).trans X3.out)
      have xx5 := cell_of_row _ _ 5 _ _ (0, 0) ((hx.below.block w1.heap.size mlX).trans X3.out)
      have xx6 := cell_of_row _ _ 6 _ _ (0, 0) ((hx.below.block w1.heap.size mlX).trans X3.out)
      have xx7 := cell_of_row _ _ 7 _ _ (0, 0) ((hx.below.block w1.heap.size mlX).trans X3.out)
      simp only [List.getElem?_toArray, List.getElem?_cons_zero, List.getElem?_cons_succ] at xx0 xx1 xx2 xx3 xx4 xx5 xx6 xx7
      have ii0 := cell_of_row _ _ 0 _ _ (0, 0) ((hx.below.block w.heap.size mlI).trans I3.out)
      have ii1 := cell_of_row _ _ 1 _ _ (0, 0) ((hx.below.block w.heap.size mlI).trans I3.out)
      have ii2 := cell_of_row _ _ 2 _ _ (0, 0) ((hx.below.block w.heap.size mlI).trans I3.out)
      have ii3 := cell_of_row _ _ 3 _ _ (0, 0) ((hx.below.block w.heap.size mlI).trans I3.out)
      have ii4 := cell_of_row _ _ 4 _ _ (0, 0) ((hx.below.block w.heap.size mlI).trans I3.out)
      simp only [List.getElem?_toArray, List.getElem?_cons_zero, List.getElem?_cons_succ] at ii0 ii1 ii2 ii3 ii4
      have HK2 := Lib.hid hK
      have HX := Lib.hid hx
      have H2 := Lib.hid h2
      clear hK h1 h2 hx
      go_simp
      first
        | (go_at_call 17; refine (FRO.out A cap (γ 5) wx ((HC3.out.below HX.out.below).more HX.out.below.size) (HX.out.row (5, pdOu fo) (by simp) (H2.out 5 (by kernel_rfl)))).mono ?_; rintro e w' ⟨rfl, hb⟩; exact HK2.out _ (HX.out.next _ (by rfl) hb))
        | exact HK2.out _ (HX.out.next _ (by rfl) (Below.refl _ _))
  try simp only [Act.put, List.setIfInBounds_toArray, List.set_cons_succ, List.set_cons_zero]
  refine GhostV.walk_nil (fun γ L w4 hall hG4 => ?_)
  have HB4 := Lib.hid hG4.below
  clear hG4 hall
  generalize γ 5 = gh5
  have X4 := Lib.hid ((HB4.out.block w1.heap.size mlX).trans X3.out)
  have hz4 := HB4.out.size
  have HC4 := Lib.hid ((HC3.out.below HB4.out).more hz4)
  have HBW4 := Lib.hid (HBW3.out.trans (HB4.out.mono HBW3.out.size))
  have nlX : w1.heap.size < w4.heap.size := by omega
  clear X3 I3 HB4 mlX mlI HC3 HBW3 FRO FFO
  go_wp2_with fail
  go_loopw [12] (fun v wr => ∃ k : Nat, k ≤ 2 ∧ v = .int .i64 k ∧ Below w4.heap.size w4 wr) (fun v _ => 2 - (intOf v).toNat)
  case atStart => exact ⟨0, Nat.zero_le _, rfl, Below.refl _ _⟩
  case round =>
    obtain ⟨k, hk, rfl, hbr⟩ := hrel
    have HBR := Lib.hid hbr
    have hzr := hbr.size
    clear hbr
    by_cases hk2 : k = 2
    case pos =>
      subst hk2
      go_wp2_with fail
      refine (FS.out _).mono ?_
      rintro e w5 ⟨rfl, hb⟩
      have HB5 := Lib.hid hb
      clear hb
      go_wp2_with fail
      go_ret
      exact ⟨rfl, HBW4.out.trans ((HBR.out.trans (HB5.out.mono HBR.out.size)).mono HBW4.out.size)⟩
    by_cases hk0 : k = 0
    case pos =>
      subst hk0
      clear hk hk2
      simp only [show ((0 : Nat) : Int) = 0 from rfl]
      go_wp2_with (with_reducible show wpList _ _ _ (Oper.mk _ (.buildSlice _ _ _) _ _ _ _ :: _) _ _; refine Hid.out ?_)
      refine Lib.hid ?_
      refine wpList_two rfl (.tmp 55) (.tmp 56) rfl ⟨M1.toArray⟩ ⟨M2.toArray⟩ rfl rfl ?_
      try simp only [Act.put, List.setIfInBounds_toArray, List.set_cons_succ, List.set_cons_zero]
      go_wp2_with (with_reducible show wpList _ _ _ (Oper.mk _ (.convert _ _ _) _ _ _ _ :: _) _ _; refine Hid.out ?_)
      have hb9 := HBR.out.alloc hzr (.cells #[.string ⟨M1.toArray⟩, .string ⟨M2.toArray⟩] 9)
      have hz9 : (wr.alloc (.cells #[.string ⟨M1.toArray⟩, .string ⟨M2.toArray⟩] 9)).heap.size = wr.heap.size + 1 := by simp
      have HB9 := Lib.hid hb9
      clear hb9
      generalize wr.alloc (.cells #[.string ⟨M1.toArray⟩, .string ⟨M2.toArray⟩] 9) = W9 at *
      obtain ⟨c9, R9, fr9, hconv, hrel9, hcap9⟩ := conv_bytesC W9 M1
      have HREL := Lib.hid hrel9
      clear hrel9
      obtain ⟨N, hN⟩ : ∃ N, N = M1.length := ⟨_, rfl⟩
      rw [← hN] at hp1 hz1 hconv hcap9
      have HN := Lib.hid hN.symm
      clear hN
      have HBW9 := Lib.hid (HBW4.out.trans (HB9.out.mono HBW4.out.size))
      have HMB9 := Lib.hid (HMS.out.below HBW9.out)
      have HZ9 := Lib.hid hz9
      clear hz9
      refine Lib.hid ?_
      go_wp2_with fail
      clear hconv
      go_loopw [14] (fun v W => ∃ (i : Nat) (L : List UInt8), i ≤ 9 ∧ v = .int .i64 i ∧ L.length = N ∧ FlipRel W9 W9.heap.size L W) (fun v _ => 10 - (intOf v).toNat)
      case atStart => exact ⟨0, M1, by omega, rfl, HN.out, HREL.out⟩
      case round =>
        obtain ⟨i, L, hi, rfl, hL, hrel⟩ := hrel
        by_cases hgo : i + 1 < ms.length ∧ i < 8
        case pos =>
          obtain ⟨hg1, hg2⟩ := hgo
          obtain ⟨a0, ham, hcell⟩ : ∃ a0, am = some a0 ∧ ∀ j, j < ms.length → W9.cell? (a0.add j) = some (.int .u8 (((ms.getD j 0).toNat : Nat) : Int)) := HMB9.out.elim (fun h => absurd hg1 (by rw [h.2]; exact Nat.not_lt_zero _)) id
          subst ham
          have c1 := hcell i (by omega)
          have c2 := hcell (i + 1) hg1
          clear hcell
          have b1 := World.block_lt_of_cell? W9 _ c1
          have b2 := World.block_lt_of_cell? W9 _ c2
          generalize ms.getD i 0 = y1 at c1
          generalize ms.getD (i + 1) 0 = y2 at c2
          have hx1 := y1.toNat_lt
          generalize y1.toNat = x1 at *
          obtain ⟨P, hP⟩ : ∃ P : Nat, P = x1 * N := ⟨_, rfl⟩
          have hP1 : P ≤ 255 * 1000 := by rw [hP]; exact Nat.mul_le_mul (by omega) (by omega)
          have hP2 : P ≤ 255 * N := by rw [hP]; exact Nat.mul_le_mul (by omega) (Nat.le_refl _)
          have hPi : (x1 : Int) * (N : Int) = (P : Int) := by rw [hP]; exact (Int.natCast_mul x1 N).symm
          obtain ⟨T, hT⟩ : ∃ T : Nat, T = P / 256 := ⟨_, rfl⟩
          have hTN : T < N := by omega
          have f0 : IntKind.i64.wrap (x1 : Int) = (x1 : Int) := IntWalk.i64_in _ (by omega)
          have f1 : IntKind.i64.wrap ((x1 : Int) * (N : Int)) = (P : Int) := by rw [hPi]; exact IntWalk.i64_in _ (by omega)
          have f2 : (P : Int).tdiv 256 = (T : Int) := by rw [Int.tdiv_eq_ediv_of_nonneg (by omega), hT]; omega
          have f3 : IntKind.i64.wrap (T : Int) = (T : Int) := IntWalk.i64_in _ (by omega)
          have f4 : IntKind.i64.wrap ((i : Int) + 1) = ((i + 1 : Nat) : Int) := by rw [IntWalk.i64_in _ (by omega)]; rfl
          have f5 : ((i : Int) + 1) = ((i + 1 : Nat) : Int) := rfl
          have HP := Lib.hid hP
          have HPI := Lib.hid hPi
          have HTT := Lib.hid hT
          clear hP hPi hT f5
          have hTL : T < L.length := by omega
          have hg0 : i < ms.length := by omega
          have hg3 : 0 ≤ (i : Int) + 1 := by omega
          go_wp2_with fail
          generalize decide ((i : Int) < 8) = q8
          refine Chain.chain (fun p wx => FlipRel W9 W9.heap.size (if p = 0 then L else L.set T y2) wx) (fun _ _ => False) [16] (by kernel_rfl) (by kernel_rfl) (fun _ _ _ _ h => h.elim) ⟨hrel.1, hrel.2.1.drew, hrel.2.2⟩ ?_
          iterate 16 (
            apply Chain.walk_quiet (by rfl) (by decide)
            (intro p wx hp hwn hx K hK
             have d1 := (hx.2.1.cell b1).trans c1
             have d2 := (hx.2.1.cell b2).trans c2
             have d3 : wx.cell? (Addr.mk a0.block (a0.off + (i + 1)) _) = some (.int .u8 ((y2.toNat : Nat) : Int)) := d2
             go_simp
             (go_at_K; exact hK _ hx))
            exact ⟨_, rfl⟩)
          apply Chain.walk_turn 0 (by rfl) (by rfl)
          · intro wx hx K hK
            have hx0 : FlipRel W9 W9.heap.size L wx := hx
            have d1 := (hx0.1 T hTL).1
            have d2 := (hx0.1 T hTL).2
            go_simp
            go_at_K
            exact hK _ (flipRel_set hx0 hTL y2)
          · exact ⟨undef, rfl⟩
          refine Chain.walk_nil (fun w13 hx13 => ?_)
          replace hx13 : FlipRel W9 W9.heap.size (L.set T y2) w13 := hx13
          try simp only [Act.put]
          clear c1 c2 b1 b2 f0 f1 f2 f3 f4 hTL hTN hP1 hP2
          go_wp2_with fail
          go_roundw
          case rel => exact ⟨i + 2, L.set T y2, by omega, by go_num, by rw [List.length_set]; exact hL, hx13⟩
          case measure => simp [intOf]; omega
        have HSE := Lib.hid (fun s w (h : s.size ≤ 1000000) => refSeal_any s w h)
        have HR := Lib.hid hrel
        have hzw := hrel.2.2
        have HBQ := Lib.hid (HB9.out.trans (hrel.2.1.mono HB9.out.size))
        have HMBQ := Lib.hid (HMB9.out.below hrel.2.1)
        have f1 : IntKind.i64.wrap ((N : Int) - 2) = ((N - 2 : Nat) : Int) := by rw [IntWalk.i64_in _ (by omega)]; omega
        have hLT : (L.take (N - 2)).length = N - 2 := by rw [List.length_take]; omega
        have HCL := Lib.hid (fun W' hb => bytes_backB (P := Try.prog) (W' := W') hrel.1 hb hzw 55 9 5 N c9 hL.symm (by kernel_rfl) (by kernel_rfl) (by kernel_rfl))
        have HCT := Lib.hid (fun W' hb => bytes_backB (P := Try.prog) (W' := W') (hrel.1.take (N - 2)) hb hzw 55 9 5 (N - 2) c9 hLT.symm (by kernel_rfl) (by kernel_rfl) (by kernel_rfl))
        have hg4 : 0 ≤ (N : Int) - 2 := by omega
        have hg5 : N - 2 ≤ N := by omega
        have hg6 : (N : Int) - 2 ≤ (N : Int) := by omega
        have hg9 : N - 2 ≤ c9 := by omega
        have hgA : ((N - 2 : Nat) : Int) ≤ (c9 : Int) := by omega
        clear hrel
        by_cases hn1 : i + 1 < ms.length
        case pos =>
          have hi8 : ¬ i < 8 := fun h => hgo ⟨hn1, h⟩
          clear hgo
          have hcl : wr.heap.size = wr.heap.size := rfl
          go_wp2_with (with_reducible show wpList _ _ _ (Oper.mk _ (.convert _ _ _) _ _ _ _ :: _) _ _; refine Hid.out ?_)
          have hcv := HCT.out _ (Below.refl _ _)
          refine Lib.hid ?_
          go_wp2_with fail
          refine (HSE.out _ _ (by show (L.take (N - 2)).toArray.size ≤ 1000000; rw [List.size_toArray, hLT]; omega)).mono ?_
          rintro e w14 ⟨rfl, hb14⟩
          obtain ⟨U, hU⟩ : ∃ U : ByteArray, U = ⟨(sealL (bl ⟨(L.take (N - 2)).toArray⟩)).toArray⟩ := ⟨_, rfl⟩
          have hUs : U.size = N := by rw [hU]; show (sealL (bl ⟨(L.take (N - 2)).toArray⟩)).toArray.size = N; rw [List.size_toArray, sealL_length]; show (L.take (N - 2)).toArray.toList.length + 2 = N; rw [List.toList_toArray, hLT]; omega
          rw [← hU]
          clear hU hcv
          have HBU := Lib.hid hb14
          have HB14 := Lib.hid (HBQ.out.trans (hb14.mono HBQ.out.size))
          have HMB14 := Lib.hid (HMBQ.out.below hb14)
          clear hb14
          have m0 : (⟨L.toArray⟩ : ByteArray).size = N := by show L.toArray.size = N; rw [List.size_toArray]; exact hL
          have m1 : (⟨ms.toArray⟩ : ByteArray).size = ms.length := List.size_toArray ..
          have f2 : IntKind.i64.wrap ((N : Int) - 1) = ((N - 1 : Nat) : Int) := by rw [IntWalk.i64_in _ (by omega)]; omega
          have hg7 : N - 1 ≤ N := by omega
          have hgB : ¬ 9223372036854775807 < N + 1 := by omega
          have hg8 : 0 ≤ (N : Int) - 1 := by omega
          have HUS := Lib.hid hUs
          go_wp2_with fail
          refine Chain.chain (fun p wx => Five w14 (.cells #[.string ⟨L.toArray⟩, .string U, .string (U ++ ⟨#[120]⟩), .string (U.extract 0 (N - 1)), .string ⟨ms.toArray⟩] 9 (0, 0)) p wx) (fun _ _ => False) [12] (by kernel_rfl) (by kernel_rfl) (fun _ _ _ _ h => h.elim) ⟨(Below.refl _ _).drew, rfl⟩ ?_
          iterate 12 (
            apply Chain.walk_quiet (by rfl) (by decide)
            (intro p wx hp hwn hx K hK
             have d1 := HCL.out wx (HBU.out.trans (hx.1.mono HBU.out.size))
             have d2 := (HMB14.out.below hx.1).back cpm
             go_simp
             (go_at_K; exact hK _ hx))
            exact ⟨_, rfl⟩)
          apply Chain.walk_turn 0 (by rfl) (by rfl)
          · intro wx hx K hK
            refine wp_five (.tmp 97) (.tmp 98) (.tmp 100) (.tmp 105) (.tmp 107) rfl ⟨L.toArray⟩ U (U ++ ⟨#[120]⟩) (U.extract 0 (N - 1)) ⟨ms.toArray⟩ rfl rfl rfl rfl rfl ?_
            have hz : wx.heap.size = w14.heap.size := hx.2
            rw [hz]
            exact hK _ hx.make
          · exact ⟨_, rfl⟩
          iterate 2 (
            apply Chain.walk_quiet (by rfl) (by decide)
            (intro p wx hp hwn hx K hK
             go_simp
             (go_at_K; exact hK _ hx))
            exact ⟨_, rfl⟩)
          refine Chain.walk_nil (fun w15 hx15 => ?_)
          have HB15 := Lib.hid (HB14.out.trans (hx15.1.mono HB14.out.size))
          have HRW := Lib.hid (show w15.heap[w14.heap.size]? = some (.cells #[.string ⟨L.toArray⟩, .string U, .string (U ++ ⟨#[120]⟩), .string (U.extract 0 (N - 1)), .string ⟨ms.toArray⟩] 9 (0, 0)) from hx15.2)
          have HFA := Lib.hid (five_at ⟨L.toArray⟩ U (U ++ ⟨#[120]⟩) (U.extract 0 (N - 1)) ⟨ms.toArray⟩ (by rw [m0]; unfold maxLen; omega) (by rw [HUS.out]; unfold maxLen; omega) (by rw [ByteArray.size_append, HUS.out]; show N + 1 ≤ maxLen; unfold maxLen; omega) (by rw [ByteArray.size_extract, HUS.out]; unfold maxLen; omega) (by rw [m1]; exact HMX.out))
          clear hx15
          have hzF : w14.heap.size < w15.heap.size := (Array.getElem?_eq_some_iff.1 HRW.out).1
          go_wp2_with fail
          go_loopw [110] (fun v W => ∃ q : Nat, q ≤ 5 ∧ v = .int .i64 q ∧ Below w15.heap.size w15 W) (fun v _ => 5 - (intOf v).toNat)
          case atStart => exact ⟨0, Nat.zero_le _, rfl, Below.refl _ _⟩
          case round =>
            obtain ⟨q, hq, rfl, hb17⟩ := hrel
            have HB17 := Lib.hid (HB15.out.trans (hb17.mono HB15.out.size))
            have HBF := Lib.hid hb17
            clear hb17
            by_cases hq5 : q = 5
            case pos =>
              subst hq5
              go_wp2_with fail
              go_roundw
              case rel => exact ⟨1, by omega, by go_num, HB17.out⟩
              case measure => simp [intOf]
            obtain ⟨S, hS, hSq⟩ := HFA.out q (by omega)
            obtain ⟨yy, cc, zz, dd, hyl, hzl, HRS⟩ := HRD.out A cap S hS
            have HRX := Lib.hid HRS
            clear HRS hS
            have HYL := Lib.hid hyl
            have HZL := Lib.hid hzl
            clear hyl hzl
            have FSI := Lib.hid (fun A1 c1 A2 c2 w h1 h2 => sameIn_any yy A1 A2 c1 c2 w HYL.out h1 h2)
            have FSO := Lib.hid (fun A1 c1 A2 c2 w h1 h2 => sameOut_any zz A1 A2 c1 c2 w HZL.out h1 h2)
            obtain ⟨z1, z2, z3, z4, z5⟩ := yy
            obtain ⟨⟨o1, o2, o3, o4, o5, o6, o7⟩, o8⟩ := zz
            simp only [inAgg, ouAgg] at HRX FSI FSO
            have hc5 := (cell_of_row _ _ q _ _ (0, 0) ((HBF.out.block w14.heap.size hzF).trans HRW.out)).trans hSq
            clear hSq
            have hq6 : (q : Int) < 5 := by omega
            have hq7 : q < 5 := by omega
            have xx0 := cell_of_row _ _ 0 _ _ (0, 0) ((HB17.out.block w1.heap.size nlX).trans X4.out)
            have xx1 := cell_of_row _ _ 1 _ _ (0, 0) ((HB17.out.block w1.heap.size nlX).trans X4.out)
            have xx2 := cell_of_row _ _ 2 _ _ (0, 0) ((HB17.out.block w1.heap.size nlX).trans X4.out)
            have xx3 := cell_of_row _ _ 3 _ _ (0, 0) ((HB17.out.block w1.heap.size nlX).trans X4.out)
            have xx4 := cell_of_row _ _ 4 _ _ (0, 0) ((HB17.out.block w1.heap.size nlX).trans X4.out)
            have xx5 := cell_of_row _ _ 5 _ _ (0, 0) ((HB17.out.block w1.heap.size nlX).trans X4.out)
            have xx6 := cell_of_row _ _ 6 _ _ (0, 0) ((HB17.out.block w1.heap.size nlX).trans X4.out)
            have xx7 := cell_of_row _ _ 7 _ _ (0, 0) ((HB17.out.block w1.heap.size nlX).trans X4.out)
            simp only [List.getElem?_toArray, List.getElem?_cons_zero, List.getElem?_cons_succ] at xx0 xx1 xx2 xx3 xx4 xx5 xx6 xx7
            go_wp2_with fail
            clear xx0 xx1 xx2 xx3 xx4 xx5 xx6 xx7
            clear hc5
            refine (HRX.out _ ((HC4.out.below HB17.out).more HB17.out.size)).1.mono ?_
            rintro e v1 ⟨hb, B1, cb1, rfl, hv⟩
            have HV1 := Lib.hid hv
            have HK1 := Lib.hid hb
            have HT1 := Lib.hid (HB17.out.trans (hb.mono HB17.out.size))
            clear hb hv
            have l1 : w1.heap.size < v1.heap.size := Nat.lt_of_lt_of_le nlX HT1.out.size
            have n1 : ¬ w1.heap.size = v1.heap.size := by omega
            have HA1 := Lib.hid (HT1.out.alloc HT1.out.size (.cells #[.int .u32 (z1 : Int), .int .u32 (z2 : Int), .int .i64 z3, .int .i64 z4, .slice B1 z5.length cb1] 33))
            have HL1 := Lib.hid ((Below.refl v1.heap.size v1).alloc (Nat.le_refl _) (.cells #[.int .u32 (z1 : Int), .int .u32 (z2 : Int), .int .i64 z3, .int .i64 z4, .slice B1 z5.length cb1] 33))
            have HR1 := Lib.hid (heap_alloc_new v1 (.cells #[.int .u32 (z1 : Int), .int .u32 (z2 : Int), .int .i64 z3, .int .i64 z4, .slice B1 z5.length cb1] 33))
            have hs1 : (v1.alloc (.cells #[.int .u32 (z1 : Int), .int .u32 (z2 : Int), .int .i64 z3, .int .i64 z4, .slice B1 z5.length cb1] 33)).heap.size = v1.heap.size + 1 := by simp
            have xx0 := cell_of_row _ _ 0 _ _ (0, 0) ((HT1.out.block w1.heap.size nlX).trans X4.out)
            have xx1 := cell_of_row _ _ 1 _ _ (0, 0) ((HT1.out.block w1.heap.size nlX).trans X4.out)
            have xx2 := cell_of_row _ _ 2 _ _ (0, 0) ((HT1.out.block w1.heap.size nlX).trans X4.out)
            have xx3 := cell_of_row _ _ 3 _ _ (0, 0) ((HT1.out.block w1.heap.size nlX).trans X4.out)
            have xx4 := cell_of_row _ _ 4 _ _ (0, 0) ((HT1.out.block w1.heap.size nlX).trans X4.out)
            have xx5 := cell_of_row _ _ 5 _ _ (0, 0) ((HT1.out.block w1.heap.size nlX).trans X4.out)
            have xx6 := cell_of_row _ _ 6 _ _ (0, 0) ((HT1.out.block w1.heap.size nlX).trans X4.out)
            have xx7 := cell_of_row _ _ 7 _ _ (0, 0) ((HT1.out.block w1.heap.size nlX).trans X4.out)
            simp only [List.getElem?_toArray, List.getElem?_cons_zero, List.getElem?_cons_succ] at xx0 xx1 xx2 xx3 xx4 xx5 xx6 xx7
            go_wp2_with fail
            clear xx0 xx1 xx2 xx3 xx4 xx5 xx6 xx7
            clear l1 n1
            generalize v1.alloc (.cells #[.int .u32 (z1 : Int), .int .u32 (z2 : Int), .int .i64 z3, .int .i64 z4, .slice B1 z5.length cb1] 33) = V1 at *
            refine (HRX.out _ ((HC4.out.below HA1.out).more HA1.out.size)).2.1.mono ?_
            rintro e v2 ⟨hb, B2, cb2, rfl, hv⟩
            have HV2 := Lib.hid hv
            have HK2 := Lib.hid hb
            have HT2 := Lib.hid (HA1.out.trans (hb.mono HA1.out.size))
            clear hb hv
            have l2 : w1.heap.size < v2.heap.size := Nat.lt_of_lt_of_le nlX HT2.out.size
            have n2 : ¬ w1.heap.size = v2.heap.size := by omega
            have HA2 := Lib.hid (HT2.out.alloc HT2.out.size (.cells #[.int .u32 (z1 : Int), .int .u32 (z2 : Int), .int .i64 z3, .int .i64 z4, .slice B2 z5.length cb2] 33))
            have HL2 := Lib.hid ((Below.refl v2.heap.size v2).alloc (Nat.le_refl _) (.cells #[.int .u32 (z1 : Int), .int .u32 (z2 : Int), .int .i64 z3, .int .i64 z4, .slice B2 z5.length cb2] 33))
            have HR2 := Lib.hid (heap_alloc_new v2 (.cells #[.int .u32 (z1 : Int), .int .u32 (z2 : Int), .int .i64 z3, .int .i64 z4, .slice B2 z5.length cb2] 33))
            have hs2 : (v2.alloc (.cells #[.int .u32 (z1 : Int), .int .u32 (z2 : Int), .int .i64 z3, .int .i64 z4, .slice B2 z5.length cb2] 33)).heap.size = v2.heap.size + 1 := by simp
            have xx0 := cell_of_row _ _ 0 _ _ (0, 0) ((HT2.out.block w1.heap.size nlX).trans X4.out)
            have xx1 := cell_of_row _ _ 1 _ _ (0, 0) ((HT2.out.block w1.heap.size nlX).trans X4.out)
            have xx2 := cell_of_row _ _ 2 _ _ (0, 0) ((HT2.out.block w1.heap.size nlX).trans X4.out)
            have xx3 := cell_of_row _ _ 3 _ _ (0, 0) ((HT2.out.block w1.heap.size nlX).trans X4.out)
            have xx4 := cell_of_row _ _ 4 _ _ (0, 0) ((HT2.out.block w1.heap.size nlX).trans X4.out)
            have xx5 := cell_of_row _ _ 5 _ _ (0, 0) ((HT2.out.block w1.heap.size nlX).trans X4.out)
            have xx6 := cell_of_row _ _ 6 _ _ (0, 0) ((HT2.out.block w1.heap.size nlX).trans X4.out)
            have xx7 := cell_of_row _ _ 7 _ _ (0, 0) ((HT2.out.block w1.heap.size nlX).trans X4.out)
            simp only [List.getElem?_toArray, List.getElem?_cons_zero, List.getElem?_cons_succ] at xx0 xx1 xx2 xx3 xx4 xx5 xx6 xx7
            go_wp2_with fail
            clear xx0 xx1 xx2 xx3 xx4 xx5 xx6 xx7
            clear l2 n2
            generalize v2.alloc (.cells #[.int .u32 (z1 : Int), .int .u32 (z2 : Int), .int .i64 z3, .int .i64 z4, .slice B2 z5.length cb2] 33) = V2 at *
            refine (HRX.out _ ((HC4.out.below HA2.out).more HA2.out.size)).2.2.1.mono ?_
            rintro e v3 ⟨hb, B3, cb3, rfl, hv⟩
            have HV3 := Lib.hid hv
            have HK3 := Lib.hid hb
            have HT3 := Lib.hid (HA2.out.trans (hb.mono HA2.out.size))
            clear hb hv
            have l3 : w1.heap.size < v3.heap.size := Nat.lt_of_lt_of_le nlX HT3.out.size
            have n3 : ¬ w1.heap.size = v3.heap.size := by omega
            have HA3 := Lib.hid (HT3.out.alloc HT3.out.size (.cells #[.int .u32 (o1 : Int), .int .u32 (o2 : Int), .int .u32 (o3 : Int), .int .u32 (o4 : Int), .bool o5, .bool o6, .int .i64 o7, .slice B3 o8.length cb3] 46))
            have HL3 := Lib.hid ((Below.refl v3.heap.size v3).alloc (Nat.le_refl _) (.cells #[.int .u32 (o1 : Int), .int .u32 (o2 : Int), .int .u32 (o3 : Int), .int .u32 (o4 : Int), .bool o5, .bool o6, .int .i64 o7, .slice B3 o8.length cb3] 46))
            have HR3 := Lib.hid (heap_alloc_new v3 (.cells #[.int .u32 (o1 : Int), .int .u32 (o2 : Int), .int .u32 (o3 : Int), .int .u32 (o4 : Int), .bool o5, .bool o6, .int .i64 o7, .slice B3 o8.length cb3] 46))
            have hs3 : (v3.alloc (.cells #[.int .u32 (o1 : Int), .int .u32 (o2 : Int), .int .u32 (o3 : Int), .int .u32 (o4 : Int), .bool o5, .bool o6, .int .i64 o7, .slice B3 o8.length cb3] 46)).heap.size = v3.heap.size + 1 := by simp
            have xx0 := cell_of_row _ _ 0 _ _ (0, 0) ((HT3.out.block w1.heap.size nlX).trans X4.out)
            have xx1 := cell_of_row _ _ 1 _ _ (0, 0) ((HT3.out.block w1.heap.size nlX).trans X4.out)
            have xx2 := cell_of_row _ _ 2 _ _ (0, 0) ((HT3.out.block w1.heap.size nlX).trans X4.out)
            have xx3 := cell_of_row _ _ 3 _ _ (0, 0) ((HT3.out.block w1.heap.size nlX).trans X4.out)
            have xx4 := cell_of_row _ _ 4 _ _ (0, 0) ((HT3.out.block w1.heap.size nlX).trans X4.out)
            have xx5 := cell_of_row _ _ 5 _ _ (0, 0) ((HT3.out.block w1.heap.size nlX).trans X4.out)
            have xx6 := cell_of_row _ _ 6 _ _ (0, 0) ((HT3.out.block w1.heap.size nlX).trans X4.out)
            have xx7 := cell_of_row _ _ 7 _ _ (0, 0) ((HT3.out.block w1.heap.size nlX).trans X4.out)
            simp only [List.getElem?_toArray, List.getElem?_cons_zero, List.getElem?_cons_succ] at xx0 xx1 xx2 xx3 xx4 xx5 xx6 xx7
            go_wp2_with fail
            clear xx0 xx1 xx2 xx3 xx4 xx5 xx6 xx7
            clear l3 n3
            generalize v3.alloc (.cells #[.int .u32 (o1 : Int), .int .u32 (o2 : Int), .int .u32 (o3 : Int), .int .u32 (o4 : Int), .bool o5, .bool o6, .int .i64 o7, .slice B3 o8.length cb3] 46) = V3 at *
            refine (HRX.out _ ((HC4.out.below HA3.out).more HA3.out.size)).2.2.2.mono ?_
            rintro e v4 ⟨hb, B4, cb4, rfl, hv⟩
            have HV4 := Lib.hid hv
            have HK4 := Lib.hid hb
            have HT4 := Lib.hid (HA3.out.trans (hb.mono HA3.out.size))
            clear hb hv
            have l4 : w1.heap.size < v4.heap.size := Nat.lt_of_lt_of_le nlX HT4.out.size
            have n4 : ¬ w1.heap.size = v4.heap.size := by omega
            have HA4 := Lib.hid (HT4.out.alloc HT4.out.size (.cells #[.int .u32 (o1 : Int), .int .u32 (o2 : Int), .int .u32 (o3 : Int), .int .u32 (o4 : Int), .bool o5, .bool o6, .int .i64 o7, .slice B4 o8.length cb4] 46))
            have HL4 := Lib.hid ((Below.refl v4.heap.size v4).alloc (Nat.le_refl _) (.cells #[.int .u32 (o1 : Int), .int .u32 (o2 : Int), .int .u32 (o3 : Int), .int .u32 (o4 : Int), .bool o5, .bool o6, .int .i64 o7, .slice B4 o8.length cb4] 46))
            have HR4 := Lib.hid (heap_alloc_new v4 (.cells #[.int .u32 (o1 : Int), .int .u32 (o2 : Int), .int .u32 (o3 : Int), .int .u32 (o4 : Int), .bool o5, .bool o6, .int .i64 o7, .slice B4 o8.length cb4] 46))
            have hs4 : (v4.alloc (.cells #[.int .u32 (o1 : Int), .int .u32 (o2 : Int), .int .u32 (o3 : Int), .int .u32 (o4 : Int), .bool o5, .bool o6, .int .i64 o7, .slice B4 o8.length cb4] 46)).heap.size = v4.heap.size + 1 := by simp
            have k4 := HK4.out.size
            have k3 := HK3.out.size
            have k2 := HK2.out.size
            have r1 := (HK4.out.block v1.heap.size (by omega)).trans ((HL3.out.block v1.heap.size (by omega)).trans ((HK3.out.block v1.heap.size (by omega)).trans ((HL2.out.block v1.heap.size (by omega)).trans ((HK2.out.block v1.heap.size (by omega)).trans HR1.out))))
            have r2 := (HK4.out.block v2.heap.size (by omega)).trans ((HL3.out.block v2.heap.size (by omega)).trans ((HK3.out.block v2.heap.size (by omega)).trans HR2.out))
            have r3 := (HK4.out.block v3.heap.size (by omega)).trans HR3.out
            skip
            have t1 : v1.heap.size < v4.heap.size := by omega
            have t2 : v2.heap.size < v4.heap.size := by omega
            have t3 : v3.heap.size < v4.heap.size := by omega
            have u1 : ¬ v1.heap.size = v4.heap.size := by omega
            have u2 : ¬ v2.heap.size = v4.heap.size := by omega
            have u3 : ¬ v3.heap.size = v4.heap.size := by omega
            have R3 := Lib.hid r3
            have ii0 := cell_of_row _ _ 0 _ _ (0, 0) (r1)
            have ii1 := cell_of_row _ _ 1 _ _ (0, 0) (r1)
            have ii2 := cell_of_row _ _ 2 _ _ (0, 0) (r1)
            have ii3 := cell_of_row _ _ 3 _ _ (0, 0) (r1)
            have ii4 := cell_of_row _ _ 4 _ _ (0, 0) (r1)
            simp only [List.getElem?_toArray, List.getElem?_cons_zero, List.getElem?_cons_succ] at ii0 ii1 ii2 ii3 ii4
            have jj0 := cell_of_row _ _ 0 _ _ (0, 0) (r2)
            have jj1 := cell_of_row _ _ 1 _ _ (0, 0) (r2)
            have jj2 := cell_of_row _ _ 2 _ _ (0, 0) (r2)
            have jj3 := cell_of_row _ _ 3 _ _ (0, 0) (r2)
            have jj4 := cell_of_row _ _ 4 _ _ (0, 0) (r2)
            simp only [List.getElem?_toArray, List.getElem?_cons_zero, List.getElem?_cons_succ] at jj0 jj1 jj2 jj3 jj4
            clear r1 r2 r3
            have S1 := ((((((HV1.out.below HL1.out).below HK2.out).below HL2.out).below HK3.out).below HL3.out).below HK4.out).below HL4.out
            have S2 := ((((HV2.out.below HL2.out).below HK3.out).below HL3.out).below HK4.out).below HL4.out
            have S3 := Lib.hid (((HV3.out.below HL3.out).below HK4.out).below HL4.out)
            have S4 := Lib.hid (HV4.out.below HL4.out)
            have HF1 := Lib.hid (HBF.out.trans (HK1.out.mono HBF.out.size))
            have HG1 := Lib.hid (HF1.out.trans (HL1.out.mono HF1.out.size))
            have HF2 := Lib.hid (HG1.out.trans (HK2.out.mono HG1.out.size))
            have HG2 := Lib.hid (HF2.out.trans (HL2.out.mono HF2.out.size))
            have HF3 := Lib.hid (HG2.out.trans (HK3.out.mono HG2.out.size))
            have HG3 := Lib.hid (HF3.out.trans (HL3.out.mono HF3.out.size))
            have HF4 := Lib.hid (HG3.out.trans (HK4.out.mono HG3.out.size))
            have HG4 := Lib.hid (HF4.out.trans (HL4.out.mono HF4.out.size))
            have ec1 : (cc == cc) = true := beq_self_eq_true _
            have ec2 : (cc != cc) = false := bne_self_eq_false _
            have ed1 : (dd == dd) = true := beq_self_eq_true _
            have ed2 : (dd != dd) = false := bne_self_eq_false _
            go_wp2_with fail
            clear ii0 ii1 ii2 ii3 ii4 jj0 jj1 jj2 jj3 jj4
            refine (FSI.out _ _ _ _ _ S1 S2).mono ?_
            rintro e v5 ⟨rfl, hb5⟩
            have r3 := (hb5.block v3.heap.size (by omega)).trans ((HL4.out.block v3.heap.size t3).trans R3.out)
            have r4 := (hb5.block v4.heap.size (by omega)).trans HR4.out
            have T3 := S3.out.below hb5
            have T4 := S4.out.below hb5
            have HG5 := Lib.hid (HG4.out.trans (hb5.mono HG4.out.size))
            clear S1 S2 hb5
            have ii0 := cell_of_row _ _ 0 _ _ (0, 0) (r3)
            have ii1 := cell_of_row _ _ 1 _ _ (0, 0) (r3)
            have ii2 := cell_of_row _ _ 2 _ _ (0, 0) (r3)
            have ii3 := cell_of_row _ _ 3 _ _ (0, 0) (r3)
            have ii4 := cell_of_row _ _ 4 _ _ (0, 0) (r3)
            have ii5 := cell_of_row _ _ 5 _ _ (0, 0) (r3)
            have ii6 := cell_of_row _ _ 6 _ _ (0, 0) (r3)
            have ii7 := cell_of_row _ _ 7 _ _ (0, 0) (r3)
            simp only [List.getElem?_toArray, List.getElem?_cons_zero, List.getElem?_cons_succ] at ii0 ii1 ii2 ii3 ii4 ii5 ii6 ii7
            have jj0 := cell_of_row _ _ 0 _ _ (0, 0) (r4)
            have jj1 := cell_of_row _ _ 1 _ _ (0, 0) (r4)
            have jj2 := cell_of_row _ _ 2 _ _ (0, 0) (r4)
            have jj3 := cell_of_row _ _ 3 _ _ (0, 0) (r4)
            have jj4 := cell_of_row _ _ 4 _ _ (0, 0) (r4)
            have jj5 := cell_of_row _ _ 5 _ _ (0, 0) (r4)
            have jj6 := cell_of_row _ _ 6 _ _ (0, 0) (r4)
            have jj7 := cell_of_row _ _ 7 _ _ (0, 0) (r4)
            simp only [List.getElem?_toArray, List.getElem?_cons_zero, List.getElem?_cons_succ] at jj0 jj1 jj2 jj3 jj4 jj5 jj6 jj7
            clear r3 r4
            go_wp2_with fail
            clear ii0 ii1 ii2 ii3 ii4 ii5 ii6 ii7 jj0 jj1 jj2 jj3 jj4 jj5 jj6 jj7
            refine (FSO.out _ _ _ _ _ T3 T4).mono ?_
            rintro e v6 ⟨rfl, hb6⟩
            have HG6 := Lib.hid (HG5.out.trans (hb6.mono HG5.out.size))
            clear hb6
            go_wp2_with fail
            go_roundw
            case rel => exact ⟨q + 1, by omega, by go_num, HG6.out⟩
            case measure => simp [intOf]; omega
        clear hgo
        have hcl : wr.heap.size = wr.heap.size := rfl
        go_wp2_with (with_reducible show wpList _ _ _ (Oper.mk _ (.convert _ _ _) _ _ _ _ :: _) _ _; refine Hid.out ?_)
        have hcv := HCT.out _ (Below.refl _ _)
        refine Lib.hid ?_
        go_wp2_with fail
        refine (HSE.out _ _ (by show (L.take (N - 2)).toArray.size ≤ 1000000; rw [List.size_toArray, hLT]; omega)).mono ?_
        rintro e w14 ⟨rfl, hb14⟩
        obtain ⟨U, hU⟩ : ∃ U : ByteArray, U = ⟨(sealL (bl ⟨(L.take (N - 2)).toArray⟩)).toArray⟩ := ⟨_, rfl⟩
        have hUs : U.size = N := by rw [hU]; show (sealL (bl ⟨(L.take (N - 2)).toArray⟩)).toArray.size = N; rw [List.size_toArray, sealL_length]; show (L.take (N - 2)).toArray.toList.length + 2 = N; rw [List.toList_toArray, hLT]; omega
        rw [← hU]
        clear hU hcv
        have HBU := Lib.hid hb14
        have HB14 := Lib.hid (HBQ.out.trans (hb14.mono HBQ.out.size))
        have HMB14 := Lib.hid (HMBQ.out.below hb14)
        clear hb14
        have m0 : (⟨L.toArray⟩ : ByteArray).size = N := by show L.toArray.size = N; rw [List.size_toArray]; exact hL
        have m1 : (⟨ms.toArray⟩ : ByteArray).size = ms.length := List.size_toArray ..
        have f2 : IntKind.i64.wrap ((N : Int) - 1) = ((N - 1 : Nat) : Int) := by rw [IntWalk.i64_in _ (by omega)]; omega
        have hg7 : N - 1 ≤ N := by omega
        have hgB : ¬ 9223372036854775807 < N + 1 := by omega
        have hg8 : 0 ≤ (N : Int) - 1 := by omega
        have HUS := Lib.hid hUs
        go_wp2_with fail
        refine Chain.chain (fun p wx => Five w14 (.cells #[.string ⟨L.toArray⟩, .string U, .string (U ++ ⟨#[120]⟩), .string (U.extract 0 (N - 1)), .string ⟨ms.toArray⟩] 9 (0, 0)) p wx) (fun _ _ => False) [12] (by kernel_rfl) (by kernel_rfl) (fun _ _ _ _ h => h.elim) ⟨(Below.refl _ _).drew, rfl⟩ ?_
        iterate 12 (
          apply Chain.walk_quiet (by rfl) (by decide)
          (intro p wx hp hwn hx K hK
           have d1 := HCL.out wx (HBU.out.trans (hx.1.mono HBU.out.size))
           have d2 := (HMB14.out.below hx.1).back cpm
           go_simp
           (go_at_K; exact hK _ hx))
          exact ⟨_, rfl⟩)
        apply Chain.walk_turn 0 (by rfl) (by rfl)
        · intro wx hx K hK
          refine wp_five (.tmp 97) (.tmp 98) (.tmp 100) (.tmp 105) (.tmp 107) rfl ⟨L.toArray⟩ U (U ++ ⟨#[120]⟩) (U.extract 0 (N - 1)) ⟨ms.toArray⟩ rfl rfl rfl rfl rfl ?_
          have hz : wx.heap.size = w14.heap.size := hx.2
          rw [hz]
          exact hK _ hx.make
        · exact ⟨_, rfl⟩
        iterate 2 (
          apply Chain.walk_quiet (by rfl) (by decide)
          (intro p wx hp hwn hx K hK
           go_simp
           (go_at_K; exact hK _ hx))
          exact ⟨_, rfl⟩)
        refine Chain.walk_nil (fun w15 hx15 => ?_)
        have HB15 := Lib.hid (HB14.out.trans (hx15.1.mono HB14.out.size))
        have HRW := Lib.hid (show w15.heap[w14.heap.size]? = some (.cells #[.string ⟨L.toArray⟩, .string U, .string (U ++ ⟨#[120]⟩), .string (U.extract 0 (N - 1)), .string ⟨ms.toArray⟩] 9 (0, 0)) from hx15.2)
        have HFA := Lib.hid (five_at ⟨L.toArray⟩ U (U ++ ⟨#[120]⟩) (U.extract 0 (N - 1)) ⟨ms.toArray⟩ (by rw [m0]; unfold maxLen; omega) (by rw [HUS.out]; unfold maxLen; omega) (by rw [ByteArray.size_append, HUS.out]; show N + 1 ≤ maxLen; unfold maxLen; omega) (by rw [ByteArray.size_extract, HUS.out]; unfold maxLen; omega) (by rw [m1]; exact HMX.out))
        clear hx15
        have hzF : w14.heap.size < w15.heap.size := (Array.getElem?_eq_some_iff.1 HRW.out).1
        go_wp2_with fail
        go_loopw [110] (fun v W => ∃ q : Nat, q ≤ 5 ∧ v = .int .i64 q ∧ Below w15.heap.size w15 W) (fun v _ => 5 - (intOf v).toNat)
        case atStart => exact ⟨0, Nat.zero_le _, rfl, Below.refl _ _⟩
        case round =>
          obtain ⟨q, hq, rfl, hb17⟩ := hrel
          have HB17 := Lib.hid (HB15.out.trans (hb17.mono HB15.out.size))
          have HBF := Lib.hid hb17
          clear hb17
          by_cases hq5 : q = 5
          case pos =>
            subst hq5
            go_wp2_with fail
            go_roundw
            case rel => exact ⟨1, by omega, by go_num, HB17.out⟩
            case measure => simp [intOf]
          obtain ⟨S, hS, hSq⟩ := HFA.out q (by omega)
          obtain ⟨yy, cc, zz, dd, hyl, hzl, HRS⟩ := HRD.out A cap S hS
          have HRX := Lib.hid HRS
          clear HRS hS
          have HYL := Lib.hid hyl
          have HZL := Lib.hid hzl
          clear hyl hzl
          have FSI := Lib.hid (fun A1 c1 A2 c2 w h1 h2 => sameIn_any yy A1 A2 c1 c2 w HYL.out h1 h2)
          have FSO := Lib.hid (fun A1 c1 A2 c2 w h1 h2 => sameOut_any zz A1 A2 c1 c2 w HZL.out h1 h2)
          obtain ⟨z1, z2, z3, z4, z5⟩ := yy
          obtain ⟨⟨o1, o2, o3, o4, o5, o6, o7⟩, o8⟩ := zz
          simp only [inAgg, ouAgg] at HRX FSI FSO
          have hc5 := (cell_of_row _ _ q _ _ (0, 0) ((HBF.out.block w14.heap.size hzF).trans HRW.out)).trans hSq
          clear hSq
          have hq6 : (q : Int) < 5 := by omega
          have hq7 : q < 5 := by omega
          have xx0 := cell_of_row _ _ 0 _ _ (0, 0) ((HB17.out.block w1.heap.size nlX).trans X4.out)
          have xx1 := cell_of_row _ _ 1 _ _ (0, 0) ((HB17.out.block w1.heap.size nlX).trans X4.out)
          have xx2 := cell_of_row _ _ 2 _ _ (0, 0) ((HB17.out.block w1.heap.size nlX).trans X4.out)
          have xx3 := cell_of_row _ _ 3 _ _ (0, 0) ((HB17.out.block w1.heap.size nlX).trans X4.out)
          have xx4 := cell_of_row _ _ 4 _ _ (0, 0) ((HB17.out.block w1.heap.size nlX).trans X4.out)
          have xx5 := cell_of_row _ _ 5 _ _ (0, 0) ((HB17.out.block w1.heap.size nlX).trans X4.out)
          have xx6 := cell_of_row _ _ 6 _ _ (0, 0) ((HB17.out.block w1.heap.size nlX).trans X4.out)
          have xx7 := cell_of_row _ _ 7 _ _ (0, 0) ((HB17.out.block w1.heap.size nlX).trans X4.out)
          simp only [List.getElem?_toArray, List.getElem?_cons_zero, List.getElem?_cons_succ] at xx0 xx1 xx2 xx3 xx4 xx5 xx6 xx7
          go_wp2_with fail
          clear xx0 xx1 xx2 xx3 xx4 xx5 xx6 xx7
          clear hc5
          refine (HRX.out _ ((HC4.out.below HB17.out).more HB17.out.size)).1.mono ?_
          rintro e v1 ⟨hb, B1, cb1, rfl, hv⟩
          have HV1 := Lib.hid hv
          have HK1 := Lib.hid hb
          have HT1 := Lib.hid (HB17.out.trans (hb.mono HB17.out.size))
          clear hb hv
          have l1 : w1.heap.size < v1.heap.size := Nat.lt_of_lt_of_le nlX HT1.out.size
          have n1 : ¬ w1.heap.size = v1.heap.size := by omega
          have HA1 := Lib.hid (HT1.out.alloc HT1.out.size (.cells #[.int .u32 (z1 : Int), .int .u32 (z2 : Int), .int .i64 z3, .int .i64 z4, .slice B1 z5.length cb1] 33))
          have HL1 := Lib.hid ((Below.refl v1.heap.size v1).alloc (Nat.le_refl _) (.cells #[.int .u32 (z1 : Int), .int .u32 (z2 : Int), .int .i64 z3, .int .i64 z4, .slice B1 z5.length cb1] 33))
          have HR1 := Lib.hid (heap_alloc_new v1 (.cells #[.int .u32 (z1 : Int), .int .u32 (z2 : Int), .int .i64 z3, .int .i64 z4, .slice B1 z5.length cb1] 33))
          have hs1 : (v1.alloc (.cells #[.int .u32 (z1 : Int), .int .u32 (z2 : Int), .int .i64 z3, .int .i64 z4, .slice B1 z5.length cb1] 33)).heap.size = v1.heap.size + 1 := by simp
          have xx0 := cell_of_row _ _ 0 _ _ (0, 0) ((HT1.out.block w1.heap.size nlX).trans X4.out)
          have xx1 := cell_of_row _ _ 1 _ _ (0, 0) ((HT1.out.block w1.heap.size nlX).trans X4.out)
          have xx2 := cell_of_row _ _ 2 _ _ (0, 0) ((HT1.out.block w1.heap.size nlX).trans X4.out)
          have xx3 := cell_of_row _ _ 3 _ _ (0, 0) ((HT1.out.block w1.heap.size nlX).trans X4.out)
          have xx4 := cell_of_row _ _ 4 _ _ (0, 0) ((HT1.out.block w1.heap.size nlX).trans X4.out)
          have xx5 := cell_of_row _ _ 5 _ _ (0, 0) ((HT1.out.block w1.heap.size nlX).trans X4.out)
          have xx6 := cell_of_row _ _ 6 _ _ (0, 0) ((HT1.out.block w1.heap.size nlX).trans X4.out)
          have xx7 := cell_of_row _ _ 7 _ _ (0, 0) ((HT1.out.block w1.heap.size nlX).trans X4.out)
          simp only [List.getElem?_toArray, List.getElem?_cons_zero, List.getElem?_cons_succ] at xx0 xx1 xx2 xx3 xx4 xx5 xx6 xx7
          go_wp2_with fail
          clear xx0 xx1 xx2 xx3 xx4 xx5 xx6 xx7
          clear l1 n1
          generalize v1.alloc (.cells #[.int .u32 (z1 : Int), .int .u32 (z2 : Int), .int .i64 z3, .int .i64 z4, .slice B1 z5.length cb1] 33) = V1 at *
          refine (HRX.out _ ((HC4.out.below HA1.out).more HA1.out.size)).2.1.mono ?_
          rintro e v2 ⟨hb, B2, cb2, rfl, hv⟩
          have HV2 := Lib.hid hv
          have HK2 := Lib.hid hb
          have HT2 := Lib.hid (HA1.out.trans (hb.mono HA1.out.size))
          clear hb hv
          have l2 : w1.heap.size < v2.heap.size := Nat.lt_of_lt_of_le nlX HT2.out.size
          have n2 : ¬ w1.heap.size = v2.heap.size := by omega
          have HA2 := Lib.hid (HT2.out.alloc HT2.out.size (.cells #[.int .u32 (z1 : Int), .int .u32 (z2 : Int), .int .i64 z3, .int .i64 z4, .slice B2 z5.length cb2] 33))
          have HL2 := Lib.hid ((Below.refl v2.heap.size v2).alloc (Nat.le_refl _) (.cells #[.int .u32 (z1 : Int), .int .u32 (z2 : Int), .int .i64 z3, .int .i64 z4, .slice B2 z5.length cb2] 33))
          have HR2 := Lib.hid (heap_alloc_new v2 (.cells #[.int .u32 (z1 : Int), .int .u32 (z2 : Int), .int .i64 z3, .int .i64 z4, .slice B2 z5.length cb2] 33))
          have hs2 : (v2.alloc (.cells #[.int .u32 (z1 : Int), .int .u32 (z2 : Int), .int .i64 z3, .int .i64 z4, .slice B2 z5.length cb2] 33)).heap.size = v2.heap.size + 1 := by simp
          have xx0 := cell_of_row _ _ 0 _ _ (0, 0) ((HT2.out.block w1.heap.size nlX).trans X4.out)
          have xx1 := cell_of_row _ _ 1 _ _ (0, 0) ((HT2.out.block w1.heap.size nlX).trans X4.out)
          have xx2 := cell_of_row _ _ 2 _ _ (0, 0) ((HT2.out.block w1.heap.size nlX).trans X4.out)
          have xx3 := cell_of_row _ _ 3 _ _ (0, 0) ((HT2.out.block w1.heap.size nlX).trans X4.out)
          have xx4 := cell_of_row _ _ 4 _ _ (0, 0) ((HT2.out.block w1.heap.size nlX).trans X4.out)
          have xx5 := cell_of_row _ _ 5 _ _ (0, 0) ((HT2.out.block w1.heap.size nlX).trans X4.out)
          have xx6 := cell_of_row _ _ 6 _ _ (0, 0) ((HT2.out.block w1.heap.size nlX).trans X4.out)
          have xx7 := cell_of_row _ _ 7 _ _ (0, 0) ((HT2.out.block w1.heap.size nlX).trans X4.out)
          simp only [List.getElem?_toArray, List.getElem?_cons_zero, List.getElem?_cons_succ] at xx0 xx1 xx2 xx3 xx4 xx5 xx6 xx7
          go_wp2_with fail
          clear xx0 xx1 xx2 xx3 xx4 xx5 xx6 xx7
          clear l2 n2
          generalize v2.alloc (.cells #[.int .u32 (z1 : Int), .int .u32 (z2 : Int), .int .i64 z3, .int .i64 z4, .slice B2 z5.length cb2] 33) = V2 at *
          refine (HRX.out _ ((HC4.out.below HA2.out).more HA2.out.size)).2.2.1.mono ?_
          rintro e v3 ⟨hb, B3, cb3, rfl, hv⟩
          have HV3 := Lib.hid hv
          have HK3 := Lib.hid hb
          have HT3 := Lib.hid (HA2.out.trans (hb.mono HA2.out.size))
          clear hb hv
          have l3 : w1.heap.size < v3.heap.size := Nat.lt_of_lt_of_le nlX HT3.out.size
          have n3 : ¬ w1.heap.size = v3.heap.size := by omega
          have HA3 := Lib.hid (HT3.out.alloc HT3.out.size (.cells #[.int .u32 (o1 : Int), .int .u32 (o2 : Int), .int .u32 (o3 : Int), .int .u32 (o4 : Int), .bool o5, .bool o6, .int .i64 o7, .slice B3 o8.length cb3] 46))
          have HL3 := Lib.hid ((Below.refl v3.heap.size v3).alloc (Nat.le_refl _) (.cells #[.int .u32 (o1 : Int), .int .u32 (o2 : Int), .int .u32 (o3 : Int), .int .u32 (o4 : Int), .bool o5, .bool o6, .int .i64 o7, .slice B3 o8.length cb3] 46))
          have HR3 := Lib.hid (heap_alloc_new v3 (.cells #[.int .u32 (o1 : Int), .int .u32 (o2 : Int), .int .u32 (o3 : Int), .int .u32 (o4 : Int), .bool o5, .bool o6, .int .i64 o7, .slice B3 o8.length cb3] 46))
          have hs3 : (v3.alloc (.cells #[.int .u32 (o1 : Int), .int .u32 (o2 : Int), .int .u32 (o3 : Int), .int .u32 (o4 : Int), .bool o5, .bool o6, .int .i64 o7, .slice B3 o8.length cb3] 46)).heap.size = v3.heap.size + 1 := by simp
          have xx0 := cell_of_row _ _ 0 _ _ (0, 0) ((HT3.out.block w1.heap.size nlX).trans X4.out)
          have xx1 := cell_of_row _ _ 1 _ _ (0, 0) ((HT3.out.block w1.heap.size nlX).trans X4.out)
          have xx2 := cell_of_row _ _ 2 _ _ (0, 0) ((HT3.out.block w1.heap.size nlX).trans X4.out)
          have xx3 := cell_of_row _ _ 3 _ _ (0, 0) ((HT3.out.block w1.heap.size nlX).trans X4.out)
          have xx4 := cell_of_row _ _ 4 _ _ (0, 0) ((HT3.out.block w1.heap.size nlX).trans X4.out)
          have xx5 := cell_of_row _ _ 5 _ _ (0, 0) ((HT3.out.block w1.heap.size nlX).trans X4.out)
          have xx6 := cell_of_row _ _ 6 _ _ (0, 0) ((HT3.out.block w1.heap.size nlX).trans X4.out)
          have xx7 := cell_of_row _ _ 7 _ _ (0, 0) ((HT3.out.block w1.heap.size nlX).trans X4.out)
          simp only [List.getElem?_toArray, List.getElem?_cons_zero, List.getElem?_cons_succ] at xx0 xx1 xx2 xx3 xx4 xx5 xx6 xx7
          go_wp2_with fail
          clear xx0 xx1 xx2 xx3 xx4 xx5 xx6 xx7
          clear l3 n3
          generalize v3.alloc (.cells #[.int .u32 (o1 : Int), .int .u32 (o2 : Int), .int .u32 (o3 : Int), .int .u32 (o4 : Int), .bool o5, .bool o6, .int .i64 o7, .slice B3 o8.length cb3] 46) = V3 at *
          refine (HRX.out _ ((HC4.out.below HA3.out).more HA3.out.size)).2.2.2.mono ?_
          rintro e v4 ⟨hb, B4, cb4, rfl, hv⟩
          have HV4 := Lib.hid hv
          have HK4 := Lib.hid hb
          have HT4 := Lib.hid (HA3.out.trans (hb.mono HA3.out.size))
          clear hb hv
          have l4 : w1.heap.size < v4.heap.size := Nat.lt_of_lt_of_le nlX HT4.out.size
          have n4 : ¬ w1.heap.size = v4.heap.size := by omega
          have HA4 := Lib.hid (HT4.out.alloc HT4.out.size (.cells #[.int .u32 (o1 : Int), .int .u32 (o2 : Int), .int .u32 (o3 : Int), .int .u32 (o4 : Int), .bool o5, .bool o6, .int .i64 o7, .slice B4 o8.length cb4] 46))
          have HL4 := Lib.hid ((Below.refl v4.heap.size v4).alloc (Nat.le_refl _) (.cells #[.int .u32 (o1 : Int), .int .u32 (o2 : Int), .int .u32 (o3 : Int), .int .u32 (o4 : Int), .bool o5, .bool o6, .int .i64 o7, .slice B4 o8.length cb4] 46))
          have HR4 := Lib.hid (heap_alloc_new v4 (.cells #[.int .u32 (o1 : Int), .int .u32 (o2 : Int), .int .u32 (o3 : Int), .int .u32 (o4 : Int), .bool o5, .bool o6, .int .i64 o7, .slice B4 o8.length cb4] 46))
          have hs4 : (v4.alloc (.cells #[.int .u32 (o1 : Int), .int .u32 (o2 : Int), .int .u32 (o3 : Int), .int .u32 (o4 : Int), .bool o5, .bool o6, .int .i64 o7, .slice B4 o8.length cb4] 46)).heap.size = v4.heap.size + 1 := by simp
          have k4 := HK4.out.size
          have k3 := HK3.out.size
          have k2 := HK2.out.size
          have r1 := (HK4.out.block v1.heap.size (by omega)).trans ((HL3.out.block v1.heap.size (by omega)).trans ((HK3.out.block v1.heap.size (by omega)).trans ((HL2.out.block v1.heap.size (by omega)).trans ((HK2.out.block v1.heap.size (by omega)).trans HR1.out))))
          have r2 := (HK4.out.block v2.heap.size (by omega)).trans ((HL3.out.block v2.heap.size (by omega)).trans ((HK3.out.block v2.heap.size (by omega)).trans HR2.out))
          have r3 := (HK4.out.block v3.heap.size (by omega)).trans HR3.out
          skip
          have t1 : v1.heap.size < v4.heap.size := by omega
          have t2 : v2.heap.size < v4.heap.size := by omega
          have t3 : v3.heap.size < v4.heap.size := by omega
          have u1 : ¬ v1.heap.size = v4.heap.size := by omega
          have u2 : ¬ v2.heap.size = v4.heap.size := by omega
          have u3 : ¬ v3.heap.size = v4.heap.size := by omega
          have R3 := Lib.hid r3
          have ii0 := cell_of_row _ _ 0 _ _ (0, 0) (r1)
          have ii1 := cell_of_row _ _ 1 _ _ (0, 0) (r1)
          have ii2 := cell_of_row _ _ 2 _ _ (0, 0) (r1)
          have ii3 := cell_of_row _ _ 3 _ _ (0, 0) (r1)
          have ii4 := cell_of_row _ _ 4 _ _ (0, 0) (r1)
          simp only [List.getElem?_toArray, List.getElem?_cons_zero, List.getElem?_cons_succ] at ii0 ii1 ii2 ii3 ii4
          have jj0 := cell_of_row _ _ 0 _ _ (0, 0) (r2)
          have jj1 := cell_of_row _ _ 1 _ _ (0, 0) (r2)
          have jj2 := cell_of_row _ _ 2 _ _ (0, 0) (r2)
          have jj3 := cell_of_row _ _ 3 _ _ (0, 0) (r2)
          have jj4 := cell_of_row _ _ 4 _ _ (0, 0) (r2)
          simp only [List.getElem?_toArray, List.getElem?_cons_zero, List.getElem?_cons_succ] at jj0 jj1 jj2 jj3 jj4
          clear r1 r2 r3
          have S1 := ((((((HV1.out.below HL1.out).below HK2.out).below HL2.out).below HK3.out).below HL3.out).below HK4.out).below HL4.out
          have S2 := ((((HV2.out.below HL2.out).below HK3.out).below HL3.out).below HK4.out).below HL4.out
          have S3 := Lib.hid (((HV3.out.below HL3.out).below HK4.out).below HL4.out)
          have S4 := Lib.hid (HV4.out.below HL4.out)
          have HF1 := Lib.hid (HBF.out.trans (HK1.out.mono HBF.out.size))
          have HG1 := Lib.hid (HF1.out.trans (HL1.out.mono HF1.out.size))
          have HF2 := Lib.hid (HG1.out.trans (HK2.out.mono HG1.out.size))
          have HG2 := Lib.hid (HF2.out.trans (HL2.out.mono HF2.out.size))
          have HF3 := Lib.hid (HG2.out.trans (HK3.out.mono HG2.out.size))
          have HG3 := Lib.hid (HF3.out.trans (HL3.out.mono HF3.out.size))
          have HF4 := Lib.hid (HG3.out.trans (HK4.out.mono HG3.out.size))
          have HG4 := Lib.hid (HF4.out.trans (HL4.out.mono HF4.out.size))
          have ec1 : (cc == cc) = true := beq_self_eq_true _
          have ec2 : (cc != cc) = false := bne_self_eq_false _
          have ed1 : (dd == dd) = true := beq_self_eq_true _
          have ed2 : (dd != dd) = false := bne_self_eq_false _
          go_wp2_with fail
          clear ii0 ii1 ii2 ii3 ii4 jj0 jj1 jj2 jj3 jj4
          refine (FSI.out _ _ _ _ _ S1 S2).mono ?_
          rintro e v5 ⟨rfl, hb5⟩
          have r3 := (hb5.block v3.heap.size (by omega)).trans ((HL4.out.block v3.heap.size t3).trans R3.out)
          have r4 := (hb5.block v4.heap.size (by omega)).trans HR4.out
          have T3 := S3.out.below hb5
          have T4 := S4.out.below hb5
          have HG5 := Lib.hid (HG4.out.trans (hb5.mono HG4.out.size))
          clear S1 S2 hb5
          have ii0 := cell_of_row _ _ 0 _ _ (0, 0) (r3)
          have ii1 := cell_of_row _ _ 1 _ _ (0, 0) (r3)
          have ii2 := cell_of_row _ _ 2 _ _ (0, 0) (r3)
          have ii3 := cell_of_row _ _ 3 _ _ (0, 0) (r3)
          have ii4 := cell_of_row _ _ 4 _ _ (0, 0) (r3)
          have ii5 := cell_of_row _ _ 5 _ _ (0, 0) (r3)
          have ii6 := cell_of_row _ _ 6 _ _ (0, 0) (r3)
          have ii7 := cell_of_row _ _ 7 _ _ (0, 0) (r3)
          simp only [List.getElem?_toArray, List.getElem?_cons_zero, List.getElem?_cons_succ] at ii0 ii1 ii2 ii3 ii4 ii5 ii6 ii7
          have jj0 := cell_of_row _ _ 0 _ _ (0, 0) (r4)
          have jj1 := cell_of_row _ _ 1 _ _ (0, 0) (r4)
          have jj2 := cell_of_row _ _ 2 _ _ (0, 0) (r4)
          have jj3 := cell_of_row _ _ 3 _ _ (0, 0) (r4)
          have jj4 := cell_of_row _ _ 4 _ _ (0, 0) (r4)
          have jj5 := cell_of_row _ _ 5 _ _ (0, 0) (r4)
          have jj6 := cell_of_row _ _ 6 _ _ (0, 0) (r4)
          have jj7 := cell_of_row _ _ 7 _ _ (0, 0) (r4)
          simp only [List.getElem?_toArray, List.getElem?_cons_zero, List.getElem?_cons_succ] at jj0 jj1 jj2 jj3 jj4 jj5 jj6 jj7
          clear r3 r4
          go_wp2_with fail
          clear ii0 ii1 ii2 ii3 ii4 ii5 ii6 ii7 jj0 jj1 jj2 jj3 jj4 jj5 jj6 jj7
          refine (FSO.out _ _ _ _ _ T3 T4).mono ?_
          rintro e v6 ⟨rfl, hb6⟩
          have HG6 := Lib.hid (HG5.out.trans (hb6.mono HG5.out.size))
          clear hb6
          go_wp2_with fail
          go_roundw
          case rel => exact ⟨q + 1, by omega, by go_num, HG6.out⟩
          case measure => simp [intOf]; omega
    obtain rfl : k = 1 := by omega
    clear hk hk2 hk0
    simp only [show ((1 : Nat) : Int) = 1 from rfl]
    go_wp2_with (with_reducible show wpList _ _ _ (Oper.mk _ (.buildSlice _ _ _) _ _ _ _ :: _) _ _; refine Hid.out ?_)
    refine Lib.hid ?_
    refine wpList_two rfl (.tmp 55) (.tmp 56) rfl ⟨M1.toArray⟩ ⟨M2.toArray⟩ rfl rfl ?_
    try simp only [Act.put, List.setIfInBounds_toArray, List.set_cons_succ, List.set_cons_zero]
    go_wp2_with (with_reducible show wpList _ _ _ (Oper.mk _ (.convert _ _ _) _ _ _ _ :: _) _ _; refine Hid.out ?_)
    have hb9 := HBR.out.alloc hzr (.cells #[.string ⟨M1.toArray⟩, .string ⟨M2.toArray⟩] 9)
    have hz9 : (wr.alloc (.cells #[.string ⟨M1.toArray⟩, .string ⟨M2.toArray⟩] 9)).heap.size = wr.heap.size + 1 := by simp
    have HB9 := Lib.hid hb9
    clear hb9
    generalize wr.alloc (.cells #[.string ⟨M1.toArray⟩, .string ⟨M2.toArray⟩] 9) = W9 at *
    obtain ⟨c9, R9, fr9, hconv, hrel9, hcap9⟩ := conv_bytesC W9 M2
    have HREL := Lib.hid hrel9
    clear hrel9
    obtain ⟨N, hN⟩ : ∃ N, N = M2.length := ⟨_, rfl⟩
    rw [← hN] at hp2 hz2 hconv hcap9
    have HN := Lib.hid hN.symm
    clear hN
    have HBW9 := Lib.hid (HBW4.out.trans (HB9.out.mono HBW4.out.size))
    have HMB9 := Lib.hid (HMS.out.below HBW9.out)
    have HZ9 := Lib.hid hz9
    clear hz9
    refine Lib.hid ?_
    go_wp2_with fail
    clear hconv
    go_loopw [14] (fun v W => ∃ (i : Nat) (L : List UInt8), i ≤ 9 ∧ v = .int .i64 i ∧ L.length = N ∧ FlipRel W9 W9.heap.size L W) (fun v _ => 10 - (intOf v).toNat)
    case atStart => exact ⟨0, M2, by omega, rfl, HN.out, HREL.out⟩
    case round =>
      obtain ⟨i, L, hi, rfl, hL, hrel⟩ := hrel
      by_cases hgo : i + 1 < ms.length ∧ i < 8
      case pos =>
        obtain ⟨hg1, hg2⟩ := hgo
        obtain ⟨a0, ham, hcell⟩ : ∃ a0, am = some a0 ∧ ∀ j, j < ms.length → W9.cell? (a0.add j) = some (.int .u8 (((ms.getD j 0).toNat : Nat) : Int)) := HMB9.out.elim (fun h => absurd hg1 (by rw [h.2]; exact Nat.not_lt_zero _)) id
        subst ham
        have c1 := hcell i (by omega)
        have c2 := hcell (i + 1) hg1
        clear hcell
        have b1 := World.block_lt_of_cell? W9 _ c1
        have b2 := World.block_lt_of_cell? W9 _ c2
        generalize ms.getD i 0 = y1 at c1
        generalize ms.getD (i + 1) 0 = y2 at c2
        have hx1 := y1.toNat_lt
        generalize y1.toNat = x1 at *
        obtain ⟨P, hP⟩ : ∃ P : Nat, P = x1 * N := ⟨_, rfl⟩
        have hP1 : P ≤ 255 * 1000 := by rw [hP]; exact Nat.mul_le_mul (by omega) (by omega)
        have hP2 : P ≤ 255 * N := by rw [hP]; exact Nat.mul_le_mul (by omega) (Nat.le_refl _)
        have hPi : (x1 : Int) * (N : Int) = (P : Int) := by rw [hP]; exact (Int.natCast_mul x1 N).symm
        obtain ⟨T, hT⟩ : ∃ T : Nat, T = P / 256 := ⟨_, rfl⟩
        have hTN : T < N := by omega
        have f0 : IntKind.i64.wrap (x1 : Int) = (x1 : Int) := IntWalk.i64_in _ (by omega)
        have f1 : IntKind.i64.wrap ((x1 : Int) * (N : Int)) = (P : Int) := by rw [hPi]; exact IntWalk.i64_in _ (by omega)
        have f2 : (P : Int).tdiv 256 = (T : Int) := by rw [Int.tdiv_eq_ediv_of_nonneg (by omega), hT]; omega
        have f3 : IntKind.i64.wrap (T : Int) = (T : Int) := IntWalk.i64_in _ (by omega)
        have f4 : IntKind.i64.wrap ((i : Int) + 1) = ((i + 1 : Nat) : Int) := by rw [IntWalk.i64_in _ (by omega)]; rfl
        have f5 : ((i : Int) + 1) = ((i + 1 : Nat) : Int) := rfl
        have HP := Lib.hid hP
        have HPI := Lib.hid hPi
        have HTT := Lib.hid hT
        clear hP hPi hT f5
        have hTL : T < L.length := by omega
        have hg0 : i < ms.length := by omega
        have hg3 : 0 ≤ (i : Int) + 1 := by omega
        go_wp2_with fail
        generalize decide ((i : Int) < 8) = q8
        refine Chain.chain (fun p wx => FlipRel W9 W9.heap.size (if p = 0 then L else L.set T y2) wx) (fun _ _ => False) [16] (by kernel_rfl) (by kernel_rfl) (fun _ _ _ _ h => h.elim) ⟨hrel.1, hrel.2.1.drew, hrel.2.2⟩ ?_
        iterate 16 (
          apply Chain.walk_quiet (by rfl) (by decide)
          (intro p wx hp hwn hx K hK
           have d1 := (hx.2.1.cell b1).trans c1
           have d2 := (hx.2.1.cell b2).trans c2
           have d3 : wx.cell? (Addr.mk a0.block (a0.off + (i + 1)) _) = some (.int .u8 ((y2.toNat : Nat) : Int)) := d2
           go_simp
           (go_at_K; exact hK _ hx))
          exact ⟨_, rfl⟩)
        apply Chain.walk_turn 0 (by rfl) (by rfl)
        · intro wx hx K hK
          have hx0 : FlipRel W9 W9.heap.size L wx := hx
          have d1 := (hx0.1 T hTL).1
          have d2 := (hx0.1 T hTL).2
          go_simp
          go_at_K
          exact hK _ (flipRel_set hx0 hTL y2)
        · exact ⟨undef, rfl⟩
        refine Chain.walk_nil (fun w13 hx13 => ?_)
        replace hx13 : FlipRel W9 W9.heap.size (L.set T y2) w13 := hx13
        try simp only [Act.put]
        clear c1 c2 b1 b2 f0 f1 f2 f3 f4 hTL hTN hP1 hP2
        go_wp2_with fail
        go_roundw
        case rel => exact ⟨i + 2, L.set T y2, by omega, by go_num, by rw [List.length_set]; exact hL, hx13⟩
        case measure => simp [intOf]; omega
      have HSE := Lib.hid (fun s w (h : s.size ≤ 1000000) => refSeal_any s w h)
      have HR := Lib.hid hrel
      have hzw := hrel.2.2
      have HBQ := Lib.hid (HB9.out.trans (hrel.2.1.mono HB9.out.size))
      have HMBQ := Lib.hid (HMB9.out.below hrel.2.1)
      have f1 : IntKind.i64.wrap ((N : Int) - 2) = ((N - 2 : Nat) : Int) := by rw [IntWalk.i64_in _ (by omega)]; omega
      have hLT : (L.take (N - 2)).length = N - 2 := by rw [List.length_take]; omega
      have HCL := Lib.hid (fun W' hb => bytes_backB (P := Try.prog) (W' := W') hrel.1 hb hzw 55 9 5 N c9 hL.symm (by kernel_rfl) (by kernel_rfl) (by kernel_rfl))
      have HCT := Lib.hid (fun W' hb => bytes_backB (P := Try.prog) (W' := W') (hrel.1.take (N - 2)) hb hzw 55 9 5 (N - 2) c9 hLT.symm (by kernel_rfl) (by kernel_rfl) (by kernel_rfl))
      have hg4 : 0 ≤ (N : Int) - 2 := by omega
      have hg5 : N - 2 ≤ N := by omega
      have hg6 : (N : Int) - 2 ≤ (N : Int) := by omega
      have hg9 : N - 2 ≤ c9 := by omega
      have hgA : ((N - 2 : Nat) : Int) ≤ (c9 : Int) := by omega
      clear hrel
      by_cases hn1 : i + 1 < ms.length
      case pos =>
        have hi8 : ¬ i < 8 := fun h => hgo ⟨hn1, h⟩
        clear hgo
        have hcl : wr.heap.size = wr.heap.size := rfl
        go_wp2_with (with_reducible show wpList _ _ _ (Oper.mk _ (.convert _ _ _) _ _ _ _ :: _) _ _; refine Hid.out ?_)
        have hcv := HCT.out _ (Below.refl _ _)
        refine Lib.hid ?_
        go_wp2_with fail
        refine (HSE.out _ _ (by show (L.take (N - 2)).toArray.size ≤ 1000000; rw [List.size_toArray, hLT]; omega)).mono ?_
        rintro e w14 ⟨rfl, hb14⟩
        obtain ⟨U, hU⟩ : ∃ U : ByteArray, U = ⟨(sealL (bl ⟨(L.take (N - 2)).toArray⟩)).toArray⟩ := ⟨_, rfl⟩
        have hUs : U.size = N := by rw [hU]; show (sealL (bl ⟨(L.take (N - 2)).toArray⟩)).toArray.size = N; rw [List.size_toArray, sealL_length]; show (L.take (N - 2)).toArray.toList.length + 2 = N; rw [List.toList_toArray, hLT]; omega
        rw [← hU]
        clear hU hcv
        have HBU := Lib.hid hb14
        have HB14 := Lib.hid (HBQ.out.trans (hb14.mono HBQ.out.size))
        have HMB14 := Lib.hid (HMBQ.out.below hb14)
        clear hb14
        have m0 : (⟨L.toArray⟩ : ByteArray).size = N := by show L.toArray.size = N; rw [List.size_toArray]; exact hL
        have m1 : (⟨ms.toArray⟩ : ByteArray).size = ms.length := List.size_toArray ..
        have f2 : IntKind.i64.wrap ((N : Int) - 1) = ((N - 1 : Nat) : Int) := by rw [IntWalk.i64_in _ (by omega)]; omega
        have hg7 : N - 1 ≤ N := by omega
        have hgB : ¬ 9223372036854775807 < N + 1 := by omega
        have hg8 : 0 ≤ (N : Int) - 1 := by omega
        have HUS := Lib.hid hUs
        go_wp2_with fail
        refine Chain.chain (fun p wx => Five w14 (.cells #[.string ⟨L.toArray⟩, .string U, .string (U ++ ⟨#[120]⟩), .string (U.extract 0 (N - 1)), .string ⟨ms.toArray⟩] 9 (0, 0)) p wx) (fun _ _ => False) [12] (by kernel_rfl) (by kernel_rfl) (fun _ _ _ _ h => h.elim) ⟨(Below.refl _ _).drew, rfl⟩ ?_
        iterate 12 (
          apply Chain.walk_quiet (by rfl) (by decide)
          (intro p wx hp hwn hx K hK
           have d1 := HCL.out wx (HBU.out.trans (hx.1.mono HBU.out.size))
           have d2 := (HMB14.out.below hx.1).back cpm
           go_simp
           (go_at_K; exact hK _ hx))
          exact ⟨_, rfl⟩)
        apply Chain.walk_turn 0 (by rfl) (by rfl)
        · intro wx hx K hK
          refine wp_five (.tmp 97) (.tmp 98) (.tmp 100) (.tmp 105) (.tmp 107) rfl ⟨L.toArray⟩ U (U ++ ⟨#[120]⟩) (U.extract 0 (N - 1)) ⟨ms.toArray⟩ rfl rfl rfl rfl rfl ?_
          have hz : wx.heap.size = w14.heap.size := hx.2
          rw [hz]
          exact hK _ hx.make
        · exact ⟨_, rfl⟩
        iterate 2 (
          apply Chain.walk_quiet (by rfl) (by decide)
          (intro p wx hp hwn hx K hK
           go_simp
           (go_at_K; exact hK _ hx))
          exact ⟨_, rfl⟩)
        refine Chain.walk_nil (fun w15 hx15 => ?_)
        have HB15 := Lib.hid (HB14.out.trans (hx15.1.mono HB14.out.size))
        have HRW := Lib.hid (show w15.heap[w14.heap.size]? = some (.cells #[.string ⟨L.toArray⟩, .string U, .string (U ++ ⟨#[120]⟩), .string (U.extract 0 (N - 1)), .string ⟨ms.toArray⟩] 9 (0, 0)) from hx15.2)
        have HFA := Lib.hid (five_at ⟨L.toArray⟩ U (U ++ ⟨#[120]⟩) (U.extract 0 (N - 1)) ⟨ms.toArray⟩ (by rw [m0]; unfold maxLen; omega) (by rw [HUS.out]; unfold maxLen; omega) (by rw [ByteArray.size_append, HUS.out]; show N + 1 ≤ maxLen; unfold maxLen; omega) (by rw [ByteArray.size_extract, HUS.out]; unfold maxLen; omega) (by rw [m1]; exact HMX.out))
        clear hx15
        have hzF : w14.heap.size < w15.heap.size := (Array.getElem?_eq_some_iff.1 HRW.out).1
        go_wp2_with fail
        go_loopw [110] (fun v W => ∃ q : Nat, q ≤ 5 ∧ v = .int .i64 q ∧ Below w15.heap.size w15 W) (fun v _ => 5 - (intOf v).toNat)
        case atStart => exact ⟨0, Nat.zero_le _, rfl, Below.refl _ _⟩
        case round =>
          obtain ⟨q, hq, rfl, hb17⟩ := hrel
          have HB17 := Lib.hid (HB15.out.trans (hb17.mono HB15.out.size))
          have HBF := Lib.hid hb17
          clear hb17
          by_cases hq5 : q = 5
          case pos =>
            subst hq5
            go_wp2_with fail
            go_roundw
            case rel => exact ⟨2, by omega, by go_num, HB17.out⟩
            case measure => simp [intOf]
          obtain ⟨S, hS, hSq⟩ := HFA.out q (by omega)
          obtain ⟨yy, cc, zz, dd, hyl, hzl, HRS⟩ := HRD.out A cap S hS
          have HRX := Lib.hid HRS
          clear HRS hS
          have HYL := Lib.hid hyl
          have HZL := Lib.hid hzl
          clear hyl hzl
          have FSI := Lib.hid (fun A1 c1 A2 c2 w h1 h2 => sameIn_any yy A1 A2 c1 c2 w HYL.out h1 h2)
          have FSO := Lib.hid (fun A1 c1 A2 c2 w h1 h2 => sameOut_any zz A1 A2 c1 c2 w HZL.out h1 h2)
          obtain ⟨z1, z2, z3, z4, z5⟩ := yy
          obtain ⟨⟨o1, o2, o3, o4, o5, o6, o7⟩, o8⟩ := zz
          simp only [inAgg, ouAgg] at HRX FSI FSO
          have hc5 := (cell_of_row _ _ q _ _ (0, 0) ((HBF.out.block w14.heap.size hzF).trans HRW.out)).trans hSq
          clear hSq
          have hq6 : (q : Int) < 5 := by omega
          have hq7 : q < 5 := by omega
          have xx0 := cell_of_row _ _ 0 _ _ (0, 0) ((HB17.out.block w1.heap.size nlX).trans X4.out)
          have xx1 := cell_of_row _ _ 1 _ _ (0, 0) ((HB17.out.block w1.heap.size nlX).trans X4.out)
          have xx2 := cell_of_row _ _ 2 _ _ (0, 0) ((HB17.out.block w1.heap.size nlX).trans X4.out)
          have xx3 := cell_of_row _ _ 3 _ _ (0, 0) ((HB17.out.block w1.heap.size nlX).trans X4.out)
          have xx4 := cell_of_row _ _ 4 _ _ (0, 0) ((HB17.out.block w1.heap.size nlX).trans X4.out)
          have xx5 := cell_of_row _ _ 5 _ _ (0, 0) ((HB17.out.block w1.heap.size nlX).trans X4.out)
          have xx6 := cell_of_row _ _ 6 _ _ (0, 0) ((HB17.out.block w1.heap.size nlX).trans X4.out)
          have xx7 := cell_of_row _ _ 7 _ _ (0, 0) ((HB17.out.block w1.heap.size nlX).trans X4.out)
          simp only [List.getElem?_toArray, List.getElem?_cons_zero, List.getElem?_cons_succ] at xx0 xx1 xx2 xx3 xx4 xx5 xx6 xx7
          go_wp2_with fail
          clear xx0 xx1 xx2 xx3 xx4 xx5 xx6 xx7
          clear hc5
          refine (HRX.out _ ((HC4.out.below HB17.out).more HB17.out.size)).1.mono ?_
          rintro e v1 ⟨hb, B1, cb1, rfl, hv⟩
          have HV1 := Lib.hid hv
          have HK1 := Lib.hid hb
          have HT1 := Lib.hid (HB17.out.trans (hb.mono HB17.out.size))
          clear hb hv
          have l1 : w1.heap.size < v1.heap.size := Nat.lt_of_lt_of_le nlX HT1.out.size
          have n1 : ¬ w1.heap.size = v1.heap.size := by omega
          have HA1 := Lib.hid (HT1.out.alloc HT1.out.size (.cells #[.int .u32 (z1 : Int), .int .u32 (z2 : Int), .int .i64 z3, .int .i64 z4, .slice B1 z5.length cb1] 33))
          have HL1 := Lib.hid ((Below.refl v1.heap.size v1).alloc (Nat.le_refl _) (.cells #[.int .u32 (z1 : Int), .int .u32 (z2 : Int), .int .i64 z3, .int .i64 z4, .slice B1 z5.length cb1] 33))
          have HR1 := Lib.hid (heap_alloc_new v1 (.cells #[.int .u32 (z1 : Int), .int .u32 (z2 : Int), .int .i64 z3, .int .i64 z4, .slice B1 z5.length cb1] 33))
          have hs1 : (v1.alloc (.cells #[.int .u32 (z1 : Int), .int .u32 (z2 : Int), .int .i64 z3, .int .i64 z4, .slice B1 z5.length cb1] 33)).heap.size = v1.heap.size + 1 := by simp
          have xx0 := cell_of_row _ _ 0 _ _ (0, 0) ((HT1.out.block w1.heap.size nlX).trans X4.out)
          have xx1 := cell_of_row _ _ 1 _ _ (0, 0) ((HT1.out.block w1.heap.size nlX).trans X4.out)
          have xx2 := cell_of_row _ _ 2 _ _ (0, 0) ((HT1.out.block w1.heap.size nlX).trans X4.out)
          have xx3 := cell_of_row _ _ 3 _ _ (0, 0) ((HT1.out.block w1.heap.size nlX).trans X4.out)
          have xx4 := cell_of_row _ _ 4 _ _ (0, 0) ((HT1.out.block w1.heap.size nlX).trans X4.out)
          have xx5 := cell_of_row _ _ 5 _ _ (0, 0) ((HT1.out.block w1.heap.size nlX).trans X4.out)
          have xx6 := cell_of_row _ _ 6 _ _ (0, 0) ((HT1.out.block w1.heap.size nlX).trans X4.out)
          have xx7 := cell_of_row _ _ 7 _ _ (0, 0) ((HT1.out.block w1.heap.size nlX).trans X4.out)
          simp only [List.getElem?_toArray, List.getElem?_cons_zero, List.getElem?_cons_succ] at xx0 xx1 xx2 xx3 xx4 xx5 xx6 xx7
          go_wp2_with fail
          clear xx0 xx1 xx2 xx3 xx4 xx5 xx6 xx7
          clear l1 n1
          generalize v1.alloc (.cells #[.int .u32 (z1 : Int), .int .u32 (z2 : Int), .int .i64 z3, .int .i64 z4, .slice B1 z5.length cb1] 33) = V1 at *
          refine (HRX.out _ ((HC4.out.below HA1.out).more HA1.out.size)).2.1.mono ?_
          rintro e v2 ⟨hb, B2, cb2, rfl, hv⟩
          have HV2 := Lib.hid hv
          have HK2 := Lib.hid hb
          have HT2 := Lib.hid (HA1.out.trans (hb.mono HA1.out.size))
          clear hb hv
          have l2 : w1.heap.size < v2.heap.size := Nat.lt_of_lt_of_le nlX HT2.out.size
          have n2 : ¬ w1.heap.size = v2.heap.size := by omega
          have HA2 := Lib.hid (HT2.out.alloc HT2.out.size (.cells #[.int .u32 (z1 : Int), .int .u32 (z2 : Int), .int .i64 z3, .int .i64 z4, .slice B2 z5.length cb2] 33))
          have HL2 := Lib.hid ((Below.refl v2.heap.size v2).alloc (Nat.le_refl _) (.cells #[.int .u32 (z1 : Int), .int .u32 (z2 : Int), .int .i64 z3, .int .i64 z4, .slice B2 z5.length cb2] 33))
          have HR2 := Lib.hid (heap_alloc_new v2 (.cells #[.int .u32 (z1 : Int), .int .u32 (z2 : Int), .int .i64 z3, .int .i64 z4, .slice B2 z5.length cb2] 33))
          have hs2 : (v2.alloc (.cells #[.int .u32 (z1 : Int), .int .u32 (z2 : Int), .int .i64 z3, .int .i64 z4, .slice B2 z5.length cb2] 33)).heap.size = v2.heap.size + 1 := by simp
          have xx0 := cell_of_row _ _ 0 _ _ (0, 0) ((HT2.out.block w1.heap.size nlX).trans X4.out)
          have xx1 := cell_of_row _ _ 1 _ _ (0, 0) ((HT2.out.block w1.heap.size nlX).trans X4.out)
          have xx2 := cell_of_row _ _ 2 _ _ (0, 0) ((HT2.out.block w1.heap.size nlX).trans X4.out)
          have xx3 := cell_of_row _ _ 3 _ _ (0, 0) ((HT2.out.block w1.heap.size nlX).trans X4.out)
          have xx4 := cell_of_row _ _ 4 _ _ (0, 0) ((HT2.out.block w1.heap.size nlX).trans X4.out)
          have xx5 := cell_of_row _ _ 5 _ _ (0, 0) ((HT2.out.block w1.heap.size nlX).trans X4.out)
          have xx6 := cell_of_row _ _ 6 _ _ (0, 0) ((HT2.out.block w1.heap.size nlX).trans X4.out)
          have xx7 := cell_of_row _ _ 7 _ _ (0, 0) ((HT2.out.block w1.heap.size nlX).trans X4.out)
          simp only [List.getElem?_toArray, List.getElem?_cons_zero, List.getElem?_cons_succ] at xx0 xx1 xx2 xx3 xx4 xx5 xx6 xx7
          go_wp2_with fail
          clear xx0 xx1 xx2 xx3 xx4 xx5 xx6 xx7
          clear l2 n2
          generalize v2.alloc (.cells #[.int .u32 (z1 : Int), .int .u32 (z2 : Int), .int .i64 z3, .int .i64 z4, .slice B2 z5.length cb2] 33) = V2 at *
          refine (HRX.out _ ((HC4.out.below HA2.out).more HA2.out.size)).2.2.1.mono ?_
          rintro e v3 ⟨hb, B3, cb3, rfl, hv⟩
          have HV3 := Lib.hid hv
          have HK3 := Lib.hid hb
          have HT3 := Lib.hid (HA2.out.trans (hb.mono HA2.out.size))
          clear hb hv
          have l3 : w1.heap.size < v3.heap.size := Nat.lt_of_lt_of_le nlX HT3.out.size
          have n3 : ¬ w1.heap.size = v3.heap.size := by omega
          have HA3 := Lib.hid (HT3.out.alloc HT3.out.size (.cells #[.int .u32 (o1 : Int), .int .u32 (o2 : Int), .int .u32 (o3 : Int), .int .u32 (o4 : Int), .bool o5, .bool o6, .int .i64 o7, .slice B3 o8.length cb3] 46))
          have HL3 := Lib.hid ((Below.refl v3.heap.size v3).alloc (Nat.le_refl _) (.cells #[.int .u32 (o1 : Int), .int .u32 (o2 : Int), .int .u32 (o3 : Int), .int .u32 (o4 : Int), .bool o5, .bool o6, .int .i64 o7, .slice B3 o8.length cb3] 46))
          have HR3 := Lib.hid (heap_alloc_new v3 (.cells #[.int .u32 (o1 : Int), .int .u32 (o2 : Int), .int .u32 (o3 : Int), .int .u32 (o4 : Int), .bool o5, .bool o6, .int .i64 o7, .slice B3 o8.length cb3] 46))
          have hs3 : (v3.alloc (.cells #[.int .u32 (o1 : Int), .int .u32 (o2 : Int), .int .u32 (o3 : Int), .int .u32 (o4 : Int), .bool o5, .bool o6, .int .i64 o7, .slice B3 o8.length cb3] 46)).heap.size = v3.heap.size + 1 := by simp
          have xx0 := cell_of_row _ _ 0 _ _ (0, 0) ((HT3.out.block w1.heap.size nlX).trans X4.out)
          have xx1 := cell_of_row _ _ 1 _ _ (0, 0) ((HT3.out.block w1.heap.size nlX).trans X4.out)
          have xx2 := cell_of_row _ _ 2 _ _ (0, 0) ((HT3.out.block w1.heap.size nlX).trans X4.out)
          have xx3 := cell_of_row _ _ 3 _ _ (0, 0) ((HT3.out.block w1.heap.size nlX).trans X4.out)
          have xx4 := cell_of_row _ _ 4 _ _ (0, 0) ((HT3.out.block w1.heap.size nlX).trans X4.out)
          have xx5 := cell_of_row _ _ 5 _ _ (0, 0) ((HT3.out.block w1.heap.size nlX).trans X4.out)
          have xx6 := cell_of_row _ _ 6 _ _ (0, 0) ((HT3.out.block w1.heap.size nlX).trans X4.out)
          have xx7 := cell_of_row _ _ 7 _ _ (0, 0) ((HT3.out.block w1.heap.size nlX).trans X4.out)
          simp only [List.getElem?_toArray, List.getElem?_cons_zero, List.getElem?_cons_succ] at xx0 xx1 xx2 xx3 xx4 xx5 xx6 xx7
          go_wp2_with fail
          clear xx0 xx1 xx2 xx3 xx4 xx5 xx6 xx7
          clear l3 n3
          generalize v3.alloc (.cells #[.int .u32 (o1 : Int), .int .u32 (o2 : Int), .int .u32 (o3 : Int), .int .u32 (o4 : Int), .bool o5, .bool o6, .int .i64 o7, .slice B3 o8.length cb3] 46) = V3 at *
          refine (HRX.out _ ((HC4.out.below HA3.out).more HA3.out.size)).2.2.2.mono ?_
          rintro e v4 ⟨hb, B4, cb4, rfl, hv⟩
          have HV4 := Lib.hid hv
          have HK4 := Lib.hid hb
          have HT4 := Lib.hid (HA3.out.trans (hb.mono HA3.out.size))
          clear hb hv
          have l4 : w1.heap.size < v4.heap.size := Nat.lt_of_lt_of_le nlX HT4.out.size
          have n4 : ¬ w1.heap.size = v4.heap.size := by omega
          have HA4 := Lib.hid (HT4.out.alloc HT4.out.size (.cells #[.int .u32 (o1 : Int), .int .u32 (o2 : Int), .int .u32 (o3 : Int), .int .u32 (o4 : Int), .bool o5, .bool o6, .int .i64 o7, .slice B4 o8.length cb4] 46))
          have HL4 := Lib.hid ((Below.refl v4.heap.size v4).alloc (Nat.le_refl _) (.cells #[.int .u32 (o1 : Int), .int .u32 (o2 : Int), .int .u32 (o3 : Int), .int .u32 (o4 : Int), .bool o5, .bool o6, .int .i64 o7, .slice B4 o8.length cb4] 46))
          have HR4 := Lib.hid (heap_alloc_new v4 (.cells #[.int .u32 (o1 : Int), .int .u32 (o2 : Int), .int .u32 (o3 : Int), .int .u32 (o4 : Int), .bool o5, .bool o6, .int .i64 o7, .slice B4 o8.length cb4] 46))
          have hs4 : (v4.alloc (.cells #[.int .u32 (o1 : Int), .int .u32 (o2 : Int), .int .u32 (o3 : Int), .int .u32 (o4 : Int), .bool o5, .bool o6, .int .i64 o7, .slice B4 o8.length cb4] 46)).heap.size = v4.heap.size + 1 := by simp
          have k4 := HK4.out.size
          have k3 := HK3.out.size
          have k2 := HK2.out.size
          have r1 := (HK4.out.block v1.heap.size (by omega)).trans ((HL3.out.block v1.heap.size (by omega)).trans ((HK3.out.block v1.heap.size (by omega)).trans ((HL2.out.block v1.heap.size (by omega)).trans ((HK2.out.block v1.heap.size (by omega)).trans HR1.out))))
          have r2 := (HK4.out.block v2.heap.size (by omega)).trans ((HL3.out.block v2.heap.size (by omega)).trans ((HK3.out.block v2.heap.size (by omega)).trans HR2.out))
          have r3 := (HK4.out.block v3.heap.size (by omega)).trans HR3.out
          skip
          have t1 : v1.heap.size < v4.heap.size := by omega
          have t2 : v2.heap.size < v4.heap.size := by omega
          have t3 : v3.heap.size < v4.heap.size := by omega
          have u1 : ¬ v1.heap.size = v4.heap.size := by omega
          have u2 : ¬ v2.heap.size = v4.heap.size := by omega
          have u3 : ¬ v3.heap.size = v4.heap.size := by omega
          have R3 := Lib.hid r3
          have ii0 := cell_of_row _ _ 0 _ _ (0, 0) (r1)
          have ii1 := cell_of_row _ _ 1 _ _ (0, 0) (r1)
          have ii2 := cell_of_row _ _ 2 _ _ (0, 0) (r1)
          have ii3 := cell_of_row _ _ 3 _ _ (0, 0) (r1)
          have ii4 := cell_of_row _ _ 4 _ _ (0, 0) (r1)
          simp only [List.getElem?_toArray, List.getElem?_cons_zero, List.getElem?_cons_succ] at ii0 ii1 ii2 ii3 ii4
          have jj0 := cell_of_row _ _ 0 _ _ (0, 0) (r2)
          have jj1 := cell_of_row _ _ 1 _ _ (0, 0) (r2)
          have jj2 := cell_of_row _ _ 2 _ _ (0, 0) (r2)
          have jj3 := cell_of_row _ _ 3 _ _ (0, 0) (r2)
          have jj4 := cell_of_row _ _ 4 _ _ (0, 0) (r2)
          simp only [List.getElem?_toArray, List.getElem?_cons_zero, List.getElem?_cons_succ] at jj0 jj1 jj2 jj3 jj4
          clear r1 r2 r3
          have S1 := ((((((HV1.out.below HL1.out).below HK2.out).below HL2.out).below HK3.out).below HL3.out).below HK4.out).below HL4.out
          have S2 := ((((HV2.out.below HL2.out).below HK3.out).below HL3.out).below HK4.out).below HL4.out
          have S3 := Lib.hid (((HV3.out.below HL3.out).below HK4.out).below HL4.out)
          have S4 := Lib.hid (HV4.out.below HL4.out)
          have HF1 := Lib.hid (HBF.out.trans (HK1.out.mono HBF.out.size))
          have HG1 := Lib.hid (HF1.out.trans (HL1.out.mono HF1.out.size))
          have HF2 := Lib.hid (HG1.out.trans (HK2.out.mono HG1.out.size))
          have HG2 := Lib.hid (HF2.out.trans (HL2.out.mono HF2.out.size))
          have HF3 := Lib.hid (HG2.out.trans (HK3.out.mono HG2.out.size))
          have HG3 := Lib.hid (HF3.out.trans (HL3.out.mono HF3.out.size))
          have HF4 := Lib.hid (HG3.out.trans (HK4.out.mono HG3.out.size))
          have HG4 := Lib.hid (HF4.out.trans (HL4.out.mono HF4.out.size))
          have ec1 : (cc == cc) = true := beq_self_eq_true _
          have ec2 : (cc != cc) = false := bne_self_eq_false _
          have ed1 : (dd == dd) = true := beq_self_eq_true _
          have ed2 : (dd != dd) = false := bne_self_eq_false _
          go_wp2_with fail
          clear ii0 ii1 ii2 ii3 ii4 jj0 jj1 jj2 jj3 jj4
          refine (FSI.out _ _ _ _ _ S1 S2).mono ?_
          rintro e v5 ⟨rfl, hb5⟩
          have r3 := (hb5.block v3.heap.size (by omega)).trans ((HL4.out.block v3.heap.size t3).trans R3.out)
          have r4 := (hb5.block v4.heap.size (by omega)).trans HR4.out
          have T3 := S3.out.below hb5
          have T4 := S4.out.below hb5
          have HG5 := Lib.hid (HG4.out.trans (hb5.mono HG4.out.size))
          clear S1 S2 hb5
          have ii0 := cell_of_row _ _ 0 _ _ (0, 0) (r3)
          have ii1 := cell_of_row _ _ 1 _ _ (0, 0) (r3)
          have ii2 := cell_of_row _ _ 2 _ _ (0, 0) (r3)
          have ii3 := cell_of_row _ _ 3 _ _ (0, 0) (r3)
          have ii4 := cell_of_row _ _ 4 _ _ (0, 0) (r3)
          have ii5 := cell_of_row _ _ 5 _ _ (0, 0) (r3)
          have ii6 := cell_of_row _ _ 6 _ _ (0, 0) (r3)
          have ii7 := cell_of_row _ _ 7 _ _ (0, 0) (r3)
          simp only [List.getElem?_toArray, List.getElem?_cons_zero, List.getElem?_cons_succ] at ii0 ii1 ii2 ii3 ii4 ii5 ii6 ii7
          have jj0 := cell_of_row _ _ 0 _ _ (0, 0) (r4)
          have jj1 := cell_of_row _ _ 1 _ _ (0, 0) (r4)
          have jj2 := cell_of_row _ _ 2 _ _ (0, 0) (r4)
          have jj3 := cell_of_row _ _ 3 _ _ (0, 0) (r4)
          have jj4 := cell_of_row _ _ 4 _ _ (0, 0) (r4)
          have jj5 := cell_of_row _ _ 5 _ _ (0, 0) (r4)
          have jj6 := cell_of_row _ _ 6 _ _ (0, 0) (r4)
          have jj7 := cell_of_row _ _ 7 _ _ (0, 0) (r4)
          simp only [List.getElem?_toArray, List.getElem?_cons_zero, List.getElem?_cons_succ] at jj0 jj1 jj2 jj3 jj4 jj5 jj6 jj7
          clear r3 r4
          go_wp2_with fail
          clear ii0 ii1 ii2 ii3 ii4 ii5 ii6 ii7 jj0 jj1 jj2 jj3 jj4 jj5 jj6 jj7
          refine (FSO.out _ _ _ _ _ T3 T4).mono ?_
          rintro e v6 ⟨rfl, hb6⟩
          have HG6 := Lib.hid (HG5.out.trans (hb6.mono HG5.out.size))
          clear hb6
          go_wp2_with fail
          go_roundw
          case rel => exact ⟨q + 1, by omega, by go_num, HG6.out⟩
          case measure => simp [intOf]; omega
      clear hgo
      have hcl : wr.heap.size = wr.heap.size := rfl
      go_wp2_with (with_reducible show wpList _ _ _ (Oper.mk _ (.convert _ _ _) _ _ _ _ :: _) _ _; refine Hid.out ?_)
      have hcv := HCT.out _ (Below.refl _ _)
      refine Lib.hid ?_
      go_wp2_with fail
      refine (HSE.out _ _ (by show (L.take (N - 2)).toArray.size ≤ 1000000; rw [List.size_toArray, hLT]; omega)).mono ?_
      rintro e w14 ⟨rfl, hb14⟩
      obtain ⟨U, hU⟩ : ∃ U : ByteArray, U = ⟨(sealL (bl ⟨(L.take (N - 2)).toArray⟩)).toArray⟩ := ⟨_, rfl⟩
      have hUs : U.size = N := by rw [hU]; show (sealL (bl ⟨(L.take (N - 2)).toArray⟩)).toArray.size = N; rw [List.size_toArray, sealL_length]; show (L.take (N - 2)).toArray.toList.length + 2 = N; rw [List.toList_toArray, hLT]; omega
      rw [← hU]
      clear hU hcv
      have HBU := Lib.hid hb14
      have HB14 := Lib.hid (HBQ.out.trans (hb14.mono HBQ.out.size))
      have HMB14 := Lib.hid (HMBQ.out.below hb14)
      clear hb14
      have m0 : (⟨L.toArray⟩ : ByteArray).size = N := by show L.toArray.size = N; rw [List.size_toArray]; exact hL
      have m1 : (⟨ms.toArray⟩ : ByteArray).size = ms.length := List.size_toArray ..
      have f2 : IntKind.i64.wrap ((N : Int) - 1) = ((N - 1 : Nat) : Int) := by rw [IntWalk.i64_in _ (by omega)]; omega
      have hg7 : N - 1 ≤ N := by omega
      have hgB : ¬ 9223372036854775807 < N + 1 := by omega
      have hg8 : 0 ≤ (N : Int) - 1 := by omega
      have HUS := Lib.hid hUs
      go_wp2_with fail
      refine Chain.chain (fun p wx => Five w14 (.cells #[.string ⟨L.toArray⟩, .string U, .string (U ++ ⟨#[120]⟩), .string (U.extract 0 (N - 1)), .string ⟨ms.toArray⟩] 9 (0, 0)) p wx) (fun _ _ => False) [12] (by kernel_rfl) (by kernel_rfl) (fun _ _ _ _ h => h.elim) ⟨(Below.refl _ _).drew, rfl⟩ ?_
      iterate 12 (
        apply Chain.walk_quiet (by rfl) (by decide)
        (intro p wx hp hwn hx K hK
         have d1 := HCL.out wx (HBU.out.trans (hx.1.mono HBU.out.size))
         have d2 := (HMB14.out.below hx.1).back cpm
         go_simp
         (go_at_K; exact hK _ hx))
        exact ⟨_, rfl⟩)
      apply Chain.walk_turn 0 (by rfl) (by rfl)
      · intro wx hx K hK
        refine wp_five (.tmp 97) (.tmp 98) (.tmp 100) (.tmp 105) (.tmp 107) rfl ⟨L.toArray⟩ U (U ++ ⟨#[120]⟩) (U.extract 0 (N - 1)) ⟨ms.toArray⟩ rfl rfl rfl rfl rfl ?_
        have hz : wx.heap.size = w14.heap.size := hx.2
        rw [hz]
        exact hK _ hx.make
      · exact ⟨_, rfl⟩
      iterate 2 (
        apply Chain.walk_quiet (by rfl) (by decide)
        (intro p wx hp hwn hx K hK
         go_simp
         (go_at_K; exact hK _ hx))
        exact ⟨_, rfl⟩)
      refine Chain.walk_nil (fun w15 hx15 => ?_)
      have HB15 := Lib.hid (HB14.out.trans (hx15.1.mono HB14.out.size))
      have HRW := Lib.hid (show w15.heap[w14.heap.size]? = some (.cells #[.string ⟨L.toArray⟩, .string U, .string (U ++ ⟨#[120]⟩), .string (U.extract 0 (N - 1)), .string ⟨ms.toArray⟩] 9 (0, 0)) from hx15.2)
      have HFA := Lib.hid (five_at ⟨L.toArray⟩ U (U ++ ⟨#[120]⟩) (U.extract 0 (N - 1)) ⟨ms.toArray⟩ (by rw [m0]; unfold maxLen; omega) (by rw [HUS.out]; unfold maxLen; omega) (by rw [ByteArray.size_append, HUS.out]; show N + 1 ≤ maxLen; unfold maxLen; omega) (by rw [ByteArray.size_extract, HUS.out]; unfold maxLen; omega) (by rw [m1]; exact HMX.out))
      clear hx15
      have hzF : w14.heap.size < w15.heap.size := (Array.getElem?_eq_some_iff.1 HRW.out).1
      go_wp2_with fail
      go_loopw [110] (fun v W => ∃ q : Nat, q ≤ 5 ∧ v = .int .i64 q ∧ Below w15.heap.size w15 W) (fun v _ => 5 - (intOf v).toNat)
      case atStart => exact ⟨0, Nat.zero_le _, rfl, Below.refl _ _⟩
      case round =>
        obtain ⟨q, hq, rfl, hb17⟩ := hrel
        have HB17 := Lib.hid (HB15.out.trans (hb17.mono HB15.out.size))
        have HBF := Lib.hid hb17
        clear hb17
        by_cases hq5 : q = 5
        case pos =>
          subst hq5
          go_wp2_with fail
          go_roundw
          case rel => exact ⟨2, by omega, by go_num, HB17.out⟩
          case measure => simp [intOf]
        obtain ⟨S, hS, hSq⟩ := HFA.out q (by omega)
        obtain ⟨yy, cc, zz, dd, hyl, hzl, HRS⟩ := HRD.out A cap S hS
        have HRX := Lib.hid HRS
        clear HRS hS
        have HYL := Lib.hid hyl
        have HZL := Lib.hid hzl
        clear hyl hzl
        have FSI := Lib.hid (fun A1 c1 A2 c2 w h1 h2 => sameIn_any yy A1 A2 c1 c2 w HYL.out h1 h2)
        have FSO := Lib.hid (fun A1 c1 A2 c2 w h1 h2 => sameOut_any zz A1 A2 c1 c2 w HZL.out h1 h2)
        obtain ⟨z1, z2, z3, z4, z5⟩ := yy
        obtain ⟨⟨o1, o2, o3, o4, o5, o6, o7⟩, o8⟩ := zz
        simp only [inAgg, ouAgg] at HRX FSI FSO
        have hc5 := (cell_of_row _ _ q _ _ (0, 0) ((HBF.out.block w14.heap.size hzF).trans HRW.out)).trans hSq
        clear hSq
        have hq6 : (q : Int) < 5 := by omega
        have hq7 : q < 5 := by omega
        have xx0 := cell_of_row _ _ 0 _ _ (0, 0) ((HB17.out.block w1.heap.size nlX).trans X4.out)
        have xx1 := cell_of_row _ _ 1 _ _ (0, 0) ((HB17.out.block w1.heap.size nlX).trans X4.out)
        have xx2 := cell_of_row _ _ 2 _ _ (0, 0) ((HB17.out.block w1.heap.size nlX).trans X4.out)
        have xx3 := cell_of_row _ _ 3 _ _ (0, 0) ((HB17.out.block w1.heap.size nlX).trans X4.out)
        have xx4 := cell_of_row _ _ 4 _ _ (0, 0) ((HB17.out.block w1.heap.size nlX).trans X4.out)
        have xx5 := cell_of_row _ _ 5 _ _ (0, 0) ((HB17.out.block w1.heap.size nlX).trans X4.out)
        have xx6 := cell_of_row _ _ 6 _ _ (0, 0) ((HB17.out.block w1.heap.size nlX).trans X4.out)
        have xx7 := cell_of_row _ _ 7 _ _ (0, 0) ((HB17.out.block w1.heap.size nlX).trans X4.out)
        simp only [List.getElem?_toArray, List.getElem?_cons_zero, List.getElem?_cons_succ] at xx0 xx1 xx2 xx3 xx4 xx5 xx6 xx7
        go_wp2_with fail
        clear xx0 xx1 xx2 xx3 xx4 xx5 xx6 xx7
        clear hc5
        refine (HRX.out _ ((HC4.out.below HB17.out).more HB17.out.size)).1.mono ?_
        rintro e v1 ⟨hb, B1, cb1, rfl, hv⟩
        have HV1 := Lib.hid hv
        have HK1 := Lib.hid hb
        have HT1 := Lib.hid (HB17.out.trans (hb.mono HB17.out.size))
        clear hb hv
        have l1 : w1.heap.size < v1.heap.size := Nat.lt_of_lt_of_le nlX HT1.out.size
        have n1 : ¬ w1.heap.size = v1.heap.size := by omega
        have HA1 := Lib.hid (HT1.out.alloc HT1.out.size (.cells #[.int .u32 (z1 : Int), .int .u32 (z2 : Int), .int .i64 z3, .int .i64 z4, .slice B1 z5.length cb1] 33))
        have HL1 := Lib.hid ((Below.refl v1.heap.size v1).alloc (Nat.le_refl _) (.cells #[.int .u32 (z1 : Int), .int .u32 (z2 : Int), .int .i64 z3, .int .i64 z4, .slice B1 z5.length cb1] 33))
        have HR1 := Lib.hid (heap_alloc_new v1 (.cells #[.int .u32 (z1 : Int), .int .u32 (z2 : Int), .int .i64 z3, .int .i64 z4, .slice B1 z5.length cb1] 33))
        have hs1 : (v1.alloc (.cells #[.int .u32 (z1 : Int), .int .u32 (z2 : Int), .int .i64 z3, .int .i64 z4, .slice B1 z5.length cb1] 33)).heap.size = v1.heap.size + 1 := by simp
        have xx0 := cell_of_row _ _ 0 _ _ (0, 0) ((HT1.out.block w1.heap.size nlX).trans X4.out)
        have xx1 := cell_of_row _ _ 1 _ _ (0, 0) ((HT1.out.block w1.heap.size nlX).trans X4.out)
        have xx2 := cell_of_row _ _ 2 _ _ (0, 0) ((HT1.out.block w1.heap.size nlX).trans X4.out)
        have xx3 := cell_of_row _ _ 3 _ _ (0, 0) ((HT1.out.block w1.heap.size nlX).trans X4.out)
        have xx4 := cell_of_row _ _ 4 _ _ (0, 0) ((HT1.out.block w1.heap.size nlX).trans X4.out)
        have xx5 := cell_of_row _ _ 5 _ _ (0, 0) ((HT1.out.block w1.heap.size nlX).trans X4.out)
        have xx6 := cell_of_row _ _ 6 _ _ (0, 0) ((HT1.out.block w1.heap.size nlX).trans X4.out)
        have xx7 := cell_of_row _ _ 7 _ _ (0, 0) ((HT1.out.block w1.heap.size nlX).trans X4.out)
        simp only [List.getElem?_toArray, List.getElem?_cons_zero, List.getElem?_cons_succ] at xx0 xx1 xx2 xx3 xx4 xx5 xx6 xx7
        go_wp2_with fail
        clear xx0 xx1 xx2 xx3 xx4 xx5 xx6 xx7
        clear l1 n1
        generalize v1.alloc (.cells #[.int .u32 (z1 : Int), .int .u32 (z2 : Int), .int .i64 z3, .int .i64 z4, .slice B1 z5.length cb1] 33) = V1 at *
        refine (HRX.out _ ((HC4.out.below HA1.out).more HA1.out.size)).2.1.mono ?_
        rintro e v2 ⟨hb, B2, cb2, rfl, hv⟩
        have HV2 := Lib.hid hv
        have HK2 := Lib.hid hb
        have HT2 := Lib.hid (HA1.out.trans (hb.mono HA1.out.size))
        clear hb hv
        have l2 : w1.heap.size < v2.heap.size := Nat.lt_of_lt_of_le nlX HT2.out.size
        have n2 : ¬ w1.heap.size = v2.heap.size := by omega
        have HA2 := Lib.hid (HT2.out.alloc HT2.out.size (.cells #[.int .u32 (z1 : Int), .int .u32 (z2 : Int), .int .i64 z3, .int .i64 z4, .slice B2 z5.length cb2] 33))
        have HL2 := Lib.hid ((Below.refl v2.heap.size v2).alloc (Nat.le_refl _) (.cells #[.int .u32 (z1 : Int), .int .u32 (z2 : Int), .int .i64 z3, .int .i64 z4, .slice B2 z5.length cb2] 33))
        have HR2 := Lib.hid (heap_alloc_new v2 (.cells #[.int .u32 (z1 : Int), .int .u32 (z2 : Int), .int .i64 z3, .int .i64 z4, .slice B2 z5.length cb2] 33))
        have hs2 : (v2.alloc (.cells #[.int .u32 (z1 : Int), .int .u32 (z2 : Int), .int .i64 z3, .int .i64 z4, .slice B2 z5.length cb2] 33)).heap.size = v2.heap.size + 1 := by simp
        have xx0 := cell_of_row _ _ 0 _ _ (0, 0) ((HT2.out.block w1.heap.size nlX).trans X4.out)
        have xx1 := cell_of_row _ _ 1 _ _ (0, 0) ((HT2.out.block w1.heap.size nlX).trans X4.out)
        have xx2 := cell_of_row _ _ 2 _ _ (0, 0) ((HT2.out.block w1.heap.size nlX).trans X4.out)
        have xx3 := cell_of_row _ _ 3 _ _ (0, 0) ((HT2.out.block w1.heap.size nlX).trans X4.out)
        have xx4 := cell_of_row _ _ 4 _ _ (0, 0) ((HT2.out.block w1.heap.size nlX).trans X4.out)
        have xx5 := cell_of_row _ _ 5 _ _ (0, 0) ((HT2.out.block w1.heap.size nlX).trans X4.out)
        have xx6 := cell_of_row _ _ 6 _ _ (0, 0) ((HT2.out.block w1.heap.size nlX).trans X4.out)
        have xx7 := cell_of_row _ _ 7 _ _ (0, 0) ((HT2.out.block w1.heap.size nlX).trans X4.out)
        simp only [List.getElem?_toArray, List.getElem?_cons_zero, List.getElem?_cons_succ] at xx0 xx1 xx2 xx3 xx4 xx5 xx6 xx7
        go_wp2_with fail
        clear xx0 xx1 xx2 xx3 xx4 xx5 xx6 xx7
        clear l2 n2
        generalize v2.alloc (.cells #[.int .u32 (z1 : Int), .int .u32 (z2 : Int), .int .i64 z3, .int .i64 z4, .slice B2 z5.length cb2] 33) = V2 at *
        refine (HRX.out _ ((HC4.out.below HA2.out).more HA2.out.size)).2.2.1.mono ?_
        rintro e v3 ⟨hb, B3, cb3, rfl, hv⟩
        have HV3 := Lib.hid hv
        have HK3 := Lib.hid hb
        have HT3 := Lib.hid (HA2.out.trans (hb.mono HA2.out.size))
        clear hb hv
        have l3 : w1.heap.size < v3.heap.size := Nat.lt_of_lt_of_le nlX HT3.out.size
        have n3 : ¬ w1.heap.size = v3.heap.size := by omega
        have HA3 := Lib.hid (HT3.out.alloc HT3.out.size (.cells #[.int .u32 (o1 : Int), .int .u32 (o2 : Int), .int .u32 (o3 : Int), .int .u32 (o4 : Int), .bool o5, .bool o6, .int .i64 o7, .slice B3 o8.length cb3] 46))
        have HL3 := Lib.hid ((Below.refl v3.heap.size v3).alloc (Nat.le_refl _) (.cells #[.int .u32 (o1 : Int), .int .u32 (o2 : Int), .int .u32 (o3 : Int), .int .u32 (o4 : Int), .bool o5, .bool o6, .int .i64 o7, .slice B3 o8.length cb3] 46))
        have HR3 := Lib.hid (heap_alloc_new v3 (.cells #[.int .u32 (o1 : Int), .int .u32 (o2 : Int), .int .u32 (o3 : Int), .int .u32 (o4 : Int), .bool o5, .bool o6, .int .i64 o7, .slice B3 o8.length cb3] 46))
        have hs3 : (v3.alloc (.cells #[.int .u32 (o1 : Int), .int .u32 (o2 : Int), .int .u32 (o3 : Int), .int .u32 (o4 : Int), .bool o5, .bool o6, .int .i64 o7, .slice B3 o8.length cb3] 46)).heap.size = v3.heap.size + 1 := by simp
        have xx0 := cell_of_row _ _ 0 _ _ (0, 0) ((HT3.out.block w1.heap.size nlX).trans X4.out)
        have xx1 := cell_of_row _ _ 1 _ _ (0, 0) ((HT3.out.block w1.heap.size nlX).trans X4.out)
        have xx2 := cell_of_row _ _ 2 _ _ (0, 0) ((HT3.out.block w1.heap.size nlX).trans X4.out)
        have xx3 := cell_of_row _ _ 3 _ _ (0, 0) ((HT3.out.block w1.heap.size nlX).trans X4.out)
        have xx4 := cell_of_row _ _ 4 _ _ (0, 0) ((HT3.out.block w1.heap.size nlX).trans X4.out)
        have xx5 := cell_of_row _ _ 5 _ _ (0, 0) ((HT3.out.block w1.heap.size nlX).trans X4.out)
        have xx6 := cell_of_row _ _ 6 _ _ (0, 0) ((HT3.out.block w1.heap.size nlX).trans X4.out)
        have xx7 := cell_of_row _ _ 7 _ _ (0, 0) ((HT3.out.block w1.heap.size nlX).trans X4.out)
        simp only [List.getElem?_toArray, List.getElem?_cons_zero, List.getElem?_cons_succ] at xx0 xx1 xx2 xx3 xx4 xx5 xx6 xx7
        go_wp2_with fail
        clear xx0 xx1 xx2 xx3 xx4 xx5 xx6 xx7
        clear l3 n3
        generalize v3.alloc (.cells #[.int .u32 (o1 : Int), .int .u32 (o2 : Int), .int .u32 (o3 : Int), .int .u32 (o4 : Int), .bool o5, .bool o6, .int .i64 o7, .slice B3 o8.length cb3] 46) = V3 at *
        refine (HRX.out _ ((HC4.out.below HA3.out).more HA3.out.size)).2.2.2.mono ?_
        rintro e v4 ⟨hb, B4, cb4, rfl, hv⟩
        have HV4 := Lib.hid hv
        have HK4 := Lib.hid hb
        have HT4 := Lib.hid (HA3.out.trans (hb.mono HA3.out.size))
        clear hb hv
        have l4 : w1.heap.size < v4.heap.size := Nat.lt_of_lt_of_le nlX HT4.out.size
        have n4 : ¬ w1.heap.size = v4.heap.size := by omega
        have HA4 := Lib.hid (HT4.out.alloc HT4.out.size (.cells #[.int .u32 (o1 : Int), .int .u32 (o2 : Int), .int .u32 (o3 : Int), .int .u32 (o4 : Int), .bool o5, .bool o6, .int .i64 o7, .slice B4 o8.length cb4] 46))
        have HL4 := Lib.hid ((Below.refl v4.heap.size v4).alloc (Nat.le_refl _) (.cells #[.int .u32 (o1 : Int), .int .u32 (o2 : Int), .int .u32 (o3 : Int), .int .u32 (o4 : Int), .bool o5, .bool o6, .int .i64 o7, .slice B4 o8.length cb4] 46))
        have HR4 := Lib.hid (heap_alloc_new v4 (.cells #[.int .u32 (o1 : Int), .int .u32 (o2 : Int), .int .u32 (o3 : Int), .int .u32 (o4 : Int), .bool o5, .bool o6, .int .i64 o7, .slice B4 o8.length cb4] 46))
        have hs4 : (v4.alloc (.cells #[.int .u32 (o1 : Int), .int .u32 (o2 : Int), .int .u32 (o3 : Int), .int .u32 (o4 : Int), .bool o5, .bool o6, .int .i64 o7, .slice B4 o8.length cb4] 46)).heap.size = v4.heap.size + 1 := by simp
        have k4 := HK4.out.size
        have k3 := HK3.out.size
        have k2 := HK2.out.size
        have r1 := (HK4.out.block v1.heap.size (by omega)).trans ((HL3.out.block v1.heap.size (by omega)).trans ((HK3.out.block v1.heap.size (by omega)).trans ((HL2.out.block v1.heap.size (by omega)).trans ((HK2.out.block v1.heap.size (by omega)).trans HR1.out))))
        have r2 := (HK4.out.block v2.heap.size (by omega)).trans ((HL3.out.block v2.heap.size (by omega)).trans ((HK3.out.block v2.heap.size (by omega)).trans HR2.out))
        have r3 := (HK4.out.block v3.heap.size (by omega)).trans HR3.out
        skip
        have t1 : v1.heap.size < v4.heap.size := by omega
        have t2 : v2.heap.size < v4.heap.size := by omega
        have t3 : v3.heap.size < v4.heap.size := by omega
        have u1 : ¬ v1.heap.size = v4.heap.size := by omega
        have u2 : ¬ v2.heap.size = v4.heap.size := by omega
        have u3 : ¬ v3.heap.size = v4.heap.size := by omega
        have R3 := Lib.hid r3
        have ii0 := cell_of_row _ _ 0 _ _ (0, 0) (r1)
        have ii1 := cell_of_row _ _ 1 _ _ (0, 0) (r1)
        have ii2 := cell_of_row _ _ 2 _ _ (0, 0) (r1)
        have ii3 := cell_of_row _ _ 3 _ _ (0, 0) (r1)
        have ii4 := cell_of_row _ _ 4 _ _ (0, 0) (r1)
        simp only [List.getElem?_toArray, List.getElem?_cons_zero, List.getElem?_cons_succ] at ii0 ii1 ii2 ii3 ii4
        have jj0 := cell_of_row _ _ 0 _ _ (0, 0) (r2)
        have jj1 := cell_of_row _ _ 1 _ _ (0, 0) (r2)
        have jj2 := cell_of_row _ _ 2 _ _ (0, 0) (r2)
        have jj3 := cell_of_row _ _ 3 _ _ (0, 0) (r2)
        have jj4 := cell_of_row _ _ 4 _ _ (0, 0) (r2)
        simp only [List.getElem?_toArray, List.getElem?_cons_zero, List.getElem?_cons_succ] at jj0 jj1 jj2 jj3 jj4
        clear r1 r2 r3
        have S1 := ((((((HV1.out.below HL1.out).below HK2.out).below HL2.out).below HK3.out).below HL3.out).below HK4.out).below HL4.out
        have S2 := ((((HV2.out.below HL2.out).below HK3.out).below HL3.out).below HK4.out).below HL4.out
        have S3 := Lib.hid (((HV3.out.below HL3.out).below HK4.out).below HL4.out)
        have S4 := Lib.hid (HV4.out.below HL4.out)
        have HF1 := Lib.hid (HBF.out.trans (HK1.out.mono HBF.out.size))
        have HG1 := Lib.hid (HF1.out.trans (HL1.out.mono HF1.out.size))
        have HF2 := Lib.hid (HG1.out.trans (HK2.out.mono HG1.out.size))
        have HG2 := Lib.hid (HF2.out.trans (HL2.out.mono HF2.out.size))
        have HF3 := Lib.hid (HG2.out.trans (HK3.out.mono HG2.out.size))
        have HG3 := Lib.hid (HF3.out.trans (HL3.out.mono HF3.out.size))
        have HF4 := Lib.hid (HG3.out.trans (HK4.out.mono HG3.out.size))
        have HG4 := Lib.hid (HF4.out.trans (HL4.out.mono HF4.out.size))
        have ec1 : (cc == cc) = true := beq_self_eq_true _
        have ec2 : (cc != cc) = false := bne_self_eq_false _
        have ed1 : (dd == dd) = true := beq_self_eq_true _
        have ed2 : (dd != dd) = false := bne_self_eq_false _
        go_wp2_with fail
        clear ii0 ii1 ii2 ii3 ii4 jj0 jj1 jj2 jj3 jj4
        refine (FSI.out _ _ _ _ _ S1 S2).mono ?_
        rintro e v5 ⟨rfl, hb5⟩
        have r3 := (hb5.block v3.heap.size (by omega)).trans ((HL4.out.block v3.heap.size t3).trans R3.out)
        have r4 := (hb5.block v4.heap.size (by omega)).trans HR4.out
        have T3 := S3.out.below hb5
        have T4 := S4.out.below hb5
        have HG5 := Lib.hid (HG4.out.trans (hb5.mono HG4.out.size))
        clear S1 S2 hb5
        have ii0 := cell_of_row _ _ 0 _ _ (0, 0) (r3)
        have ii1 := cell_of_row _ _ 1 _ _ (0, 0) (r3)
        have ii2 := cell_of_row _ _ 2 _ _ (0, 0) (r3)
        have ii3 := cell_of_row _ _ 3 _ _ (0, 0) (r3)
        have ii4 := cell_of_row _ _ 4 _ _ (0, 0) (r3)
        have ii5 := cell_of_row _ _ 5 _ _ (0, 0) (r3)
        have ii6 := cell_of_row _ _ 6 _ _ (0, 0) (r3)
        have ii7 := cell_of_row _ _ 7 _ _ (0, 0) (r3)
        simp only [List.getElem?_toArray, List.getElem?_cons_zero, List.getElem?_cons_succ] at ii0 ii1 ii2 ii3 ii4 ii5 ii6 ii7
        have jj0 := cell_of_row _ _ 0 _ _ (0, 0) (r4)
        have jj1 := cell_of_row _ _ 1 _ _ (0, 0) (r4)
        have jj2 := cell_of_row _ _ 2 _ _ (0, 0) (r4)
        have jj3 := cell_of_row _ _ 3 _ _ (0, 0) (r4)
        have jj4 := cell_of_row _ _ 4 _ _ (0, 0) (r4)
        have jj5 := cell_of_row _ _ 5 _ _ (0, 0) (r4)
        have jj6 := cell_of_row _ _ 6 _ _ (0, 0) (r4)
        have jj7 := cell_of_row _ _ 7 _ _ (0, 0) (r4)
        simp only [List.getElem?_toArray, List.getElem?_cons_zero, List.getElem?_cons_succ] at jj0 jj1 jj2 jj3 jj4 jj5 jj6 jj7
        clear r3 r4
        go_wp2_with fail
        clear ii0 ii1 ii2 ii3 ii4 ii5 ii6 ii7 jj0 jj1 jj2 jj3 jj4 jj5 jj6 jj7
        refine (FSO.out _ _ _ _ _ T3 T4).mono ?_
        rintro e v6 ⟨rfl, hb6⟩
        have HG6 := Lib.hid (HG5.out.trans (hb6.mono HG5.out.size))
        clear hb6
        go_wp2_with fail
        go_roundw
        case rel => exact ⟨q + 1, by omega, by go_num, HG6.out⟩
        case measure => simp [intOf]; omega
end Go.Proofs.Ythbfpdkgbkpmiaa
