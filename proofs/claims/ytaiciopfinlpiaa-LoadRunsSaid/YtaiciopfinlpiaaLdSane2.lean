/- The law's sanity check is true. No statement of the seat is proved here. -/
import Derived.Test.YtaiciopfinlpiaaLdSane
import Derived.Test.YtaiciopfinlpiaaLdGhost
namespace Go.Proofs.Ytaiciopfinlpiaa
open Go.RowKit

def saneLoads : List Nat := [4604930618986332160, 4604480259023595110, 4604367669032910848, 4603579539098121011, 9221120237041090561, 9218868437227405312, 9223372036854775808]
theorem sane_outs : outsF (bldX 4593671619917905920 4604930618986332160 4607182418800017408) 0 saneLoads = [3, 3, 3, 2, 0, 4, 1] := by decide +kernel
theorem sane_minus : classF (bldX 4593671619917905920 4604930618986332160 4607182418800017408) 13830554455654793216 = 0 := by decide +kernel
theorem usual_bld : bldD 4593671619917905920 4604930618986332160 4607182418800017408 = bldX 4593671619917905920 4604930618986332160 4607182418800017408 := by unfold bldD; split <;> rfl
theorem run_row (b : BldD) (A : Option Addr) (cap : Nat) (s : Int) (l : List Nat) (v : Value) (w : World) (hn : b.cars.length ≤ 140737488355328) (hc : CarsAt w w.heap.size A b.cars) (hl : l.length ≤ 5000) (hL : VV w v (flts l)) :
    Calls Try.prog 15 #[b.agg A cap, .agg #[.int .i64 s], v] w fun e w' => ∃ u, e = .returned u ∧ VV w' u (nums (outsF b s l)) ∧ Below w.heap.size w w' := by
  obtain ⟨L, lcap, rfl, hA⟩ := hL
  rw [flts_len]
  exact (run_any b A cap s l L lcap w hn hc hl hA).mono fun e w' h => ⟨_, h.1, vv_row h.2.1 (by rw [nums_len, outsF_len]), h.2.2⟩
theorem refRun_row (b : BldD) (A : Option Addr) (cap : Nat) (s : Int) (l : List Nat) (v : Value) (w : World) (hn : b.cars.length ≤ 140737488355328) (hc : CarsAt w w.heap.size A b.cars) (hl : l.length ≤ 5000) (hL : VV w v (flts l)) :
    Calls Try.prog 17 #[b.agg A cap, .agg #[.int .i64 s], v] w fun e w' => ∃ u, e = .returned u ∧ VV w' u (nums (outsF b s l)) ∧ Below w.heap.size w w' := by
  obtain ⟨L, lcap, rfl, hA⟩ := hL
  rw [flts_len]
  exact (refRun_any b A cap s l L lcap w hn hc hl hA).mono fun e w' ⟨u, h1, h2, h3⟩ => ⟨_, h1, (VV.of_own h2).2, h3⟩

set_option maxHeartbeats 2000000 in
theorem sane_any (w : World) : Calls Try.prog 8 #[] w fun e w' => e = .returned (.bool true) ∧ Below w.heap.size w w' := by
  have hB := bld_any 4593671619917905920 4604930618986332160 4607182418800017408
  rw [usual_bld] at hB
  obtain ⟨b, hb⟩ : ∃ b, b = bldX 4593671619917905920 4604930618986332160 4607182418800017408 := ⟨_, rfl⟩
  have hO := sane_outs
  have hM := sane_minus
  have hcl : b.cars.length ≤ 140737488355328 := by rw [hb]; simp [bldX, sampleCars_length]
  rw [← hb] at hB hO hM
  have FB := Lib.hid hB
  clear hb hB
  have FR := Lib.hid (fun A cap (v : Value) wx (hc : CarsAt wx wx.heap.size A b.cars) (hL : VV wx v (flts saneLoads)) => run_row b A cap 0 saneLoads v wx hcl hc (by decide) hL)
  have FC := Lib.hid (fun A cap wx (hc : CarsAt wx wx.heap.size A b.cars) => class_any b A cap 13830554455654793216 wx hcl hc)
  rw [hO] at FR
  rw [hM] at FC
  clear hO hM hcl
  obtain ⟨f, d, r, p, e1, e2, e3, cs⟩ := b
  simp only [BldD.agg] at FB FR FC
  go_enter Try.func8, Try.ntmps8
  go_wp2_with fail
  refine (FB.out _).mono ?_
  rintro e w1 ⟨A, cap, rfl, hcars, hb1⟩
  have HC := Lib.hid hcars
  have hrow := heap_alloc_new w1 (.cells #[.int .i64 f, .int .i64 d, .int .i64 r, .int .i64 p, .float .f64 e1, .float .f64 e2, .float .f64 e3, .slice A cs.length cap] 25)
  have hb2 := hb1.alloc hb1.size (.cells #[.int .i64 f, .int .i64 d, .int .i64 r, .int .i64 p, .float .f64 e1, .float .f64 e2, .float .f64 e3, .slice A cs.length cap] 25)
  have hc2 := (hcars.below ((Below.refl _ _).alloc (Nat.le_refl _) (.cells #[.int .i64 f, .int .i64 d, .int .i64 r, .int .i64 p, .float .f64 e1, .float .f64 e2, .float .f64 e3, .slice A cs.length cap] 25)))
  have HROW := Lib.hid hrow
  have HB2 := Lib.hid hb2
  have HC2 := Lib.hid (hc2.more (B' := (w1.alloc (.cells #[.int .i64 f, .int .i64 d, .int .i64 r, .int .i64 p, .float .f64 e1, .float .f64 e2, .float .f64 e3, .slice A cs.length cap] 25)).heap.size) (by simp))
  have hsz : w1.heap.size < (w1.alloc (.cells #[.int .i64 f, .int .i64 d, .int .i64 r, .int .i64 p, .float .f64 e1, .float .f64 e2, .float .f64 e3, .slice A cs.length cap] 25)).heap.size := by simp
  clear hrow hb2 hc2 hb1 hcars
  go_wp2_with fail
  generalize w1.alloc (.cells #[.int .i64 f, .int .i64 d, .int .i64 r, .int .i64 p, .float .f64 e1, .float .f64 e2, .float .f64 e3, .slice A cs.length cap] 25) = W at *
  have HVR := Lib.hid (fun wx : World => (vv_row (heap_alloc_new wx (.cells (flts saneLoads).toArray 22)) rfl : VV (wx.alloc (.cells (flts saneLoads).toArray 22)) (.slice (some ⟨wx.heap.size, 0, none⟩) 7 7) (flts saneLoads)))
  refine GhostV.ghost (fun γ L wx => GV (W) [(5, flts saneLoads), (6, nums [3, 3, 3, 2, 0, 4, 1]), (7, nums [3, 3, 3, 2, 0, 4, 1])] γ L wx) (by kernel_rfl) (by kernel_rfl) (fun γ => GV.start _ _ γ) ?_
  apply GhostV.walk_const (fun γ => by rfl)
  · intro γ L wx h1 h2 hx K hK
    obtain ⟨c0, c1, c2, c3, c4, c5, c6, c7⟩ := boxRow ((hx.below.block _ hsz).trans HROW.out)
    have HK2 := Lib.hid hK
    have HX := Lib.hid hx
    have H2 := Lib.hid h2
    clear hK h1 h2 hx
    go_simp
    first
      | (go_at_call 18; refine (nan_any _).mono ?_; rintro e w' ⟨rfl, rfl⟩; exact HK2.out _ (HX.out.next _ (by rfl) (Below.refl _ _)))
      | (go_at_call 19; refine (inf_any 1 (by omega) _).mono ?_; rintro e w' ⟨rfl, rfl⟩; exact HK2.out _ (HX.out.next _ (by rfl) (Below.refl _ _)))
      | (go_at_call 20; refine (copysign_sane _).mono ?_; rintro e w' ⟨rfl, rfl⟩; exact HK2.out _ (HX.out.next _ (by rfl) (Below.refl _ _)))
      | exact HK2.out _ (HX.out.next _ (by rfl) (Below.refl _ _))
  try simp only [Act.put, List.setIfInBounds_toArray, List.set_cons_succ, List.set_cons_zero]
  apply GhostV.walk_const (fun γ => by rfl)
  · intro γ L wx h1 h2 hx K hK
    obtain ⟨c0, c1, c2, c3, c4, c5, c6, c7⟩ := boxRow ((hx.below.block _ hsz).trans HROW.out)
    have HK2 := Lib.hid hK
    have HX := Lib.hid hx
    have H2 := Lib.hid h2
    clear hK h1 h2 hx
    go_simp
    first
      | (go_at_call 18; refine (nan_any _).mono ?_; rintro e w' ⟨rfl, rfl⟩; exact HK2.out _ (HX.out.next _ (by rfl) (Below.refl _ _)))
      | (go_at_call 19; refine (inf_any 1 (by omega) _).mono ?_; rintro e w' ⟨rfl, rfl⟩; exact HK2.out _ (HX.out.next _ (by rfl) (Below.refl _ _)))
      | (go_at_call 20; refine (copysign_sane _).mono ?_; rintro e w' ⟨rfl, rfl⟩; exact HK2.out _ (HX.out.next _ (by rfl) (Below.refl _ _)))
      | exact HK2.out _ (HX.out.next _ (by rfl) (Below.refl _ _))
  try simp only [Act.put, List.setIfInBounds_toArray, List.set_cons_succ, List.set_cons_zero]
  apply GhostV.walk_const (fun γ => by rfl)
  · intro γ L wx h1 h2 hx K hK
    obtain ⟨c0, c1, c2, c3, c4, c5, c6, c7⟩ := boxRow ((hx.below.block _ hsz).trans HROW.out)
    have HK2 := Lib.hid hK
    have HX := Lib.hid hx
    have H2 := Lib.hid h2
    clear hK h1 h2 hx
    go_simp
    first
      | (go_at_call 18; refine (nan_any _).mono ?_; rintro e w' ⟨rfl, rfl⟩; exact HK2.out _ (HX.out.next _ (by rfl) (Below.refl _ _)))
      | (go_at_call 19; refine (inf_any 1 (by omega) _).mono ?_; rintro e w' ⟨rfl, rfl⟩; exact HK2.out _ (HX.out.next _ (by rfl) (Below.refl _ _)))
      | (go_at_call 20; refine (copysign_sane _).mono ?_; rintro e w' ⟨rfl, rfl⟩; exact HK2.out _ (HX.out.next _ (by rfl) (Below.refl _ _)))
      | exact HK2.out _ (HX.out.next _ (by rfl) (Below.refl _ _))
  try simp only [Act.put, List.setIfInBounds_toArray, List.set_cons_succ, List.set_cons_zero]
  apply GhostV.walk_const (fun γ => by rfl)
  · intro γ L wx h1 h2 hx K hK
    obtain ⟨c0, c1, c2, c3, c4, c5, c6, c7⟩ := boxRow ((hx.below.block _ hsz).trans HROW.out)
    have HK2 := Lib.hid hK
    have HX := Lib.hid hx
    have H2 := Lib.hid h2
    clear hK h1 h2 hx
    go_simp
    first
      | (go_at_call 18; refine (nan_any _).mono ?_; rintro e w' ⟨rfl, rfl⟩; exact HK2.out _ (HX.out.next _ (by rfl) (Below.refl _ _)))
      | (go_at_call 19; refine (inf_any 1 (by omega) _).mono ?_; rintro e w' ⟨rfl, rfl⟩; exact HK2.out _ (HX.out.next _ (by rfl) (Below.refl _ _)))
      | (go_at_call 20; refine (copysign_sane _).mono ?_; rintro e w' ⟨rfl, rfl⟩; exact HK2.out _ (HX.out.next _ (by rfl) (Below.refl _ _)))
      | exact HK2.out _ (HX.out.next _ (by rfl) (Below.refl _ _))
  try simp only [Act.put, List.setIfInBounds_toArray, List.set_cons_succ, List.set_cons_zero]
  apply GhostV.walk_const (fun γ => by rfl)
  · intro γ L wx h1 h2 hx K hK
    obtain ⟨c0, c1, c2, c3, c4, c5, c6, c7⟩ := boxRow ((hx.below.block _ hsz).trans HROW.out)
    have HK2 := Lib.hid hK
    have HX := Lib.hid hx
    have H2 := Lib.hid h2
    clear hK h1 h2 hx
    go_simp
    first
      | (go_at_call 18; refine (nan_any _).mono ?_; rintro e w' ⟨rfl, rfl⟩; exact HK2.out _ (HX.out.next _ (by rfl) (Below.refl _ _)))
      | (go_at_call 19; refine (inf_any 1 (by omega) _).mono ?_; rintro e w' ⟨rfl, rfl⟩; exact HK2.out _ (HX.out.next _ (by rfl) (Below.refl _ _)))
      | (go_at_call 20; refine (copysign_sane _).mono ?_; rintro e w' ⟨rfl, rfl⟩; exact HK2.out _ (HX.out.next _ (by rfl) (Below.refl _ _)))
      | exact HK2.out _ (HX.out.next _ (by rfl) (Below.refl _ _))
  try simp only [Act.put, List.setIfInBounds_toArray, List.set_cons_succ, List.set_cons_zero]
  refine GhostV.walk_yes (fun b => b) (fun γ => by rfl) ?_ ?_
  · intro γ L wx h1 h2 hx K hK
    obtain ⟨c0, c1, c2, c3, c4, c5, c6, c7⟩ := boxRow ((hx.below.block _ hsz).trans HROW.out)
    have HK2 := Lib.hid hK
    have HX := Lib.hid hx
    have H2 := Lib.hid h2
    clear hK h1 h2 hx
    go_simp
    (exact HK2.out _ _ (HX.out.make (by simp only [List.mem_cons, List.not_mem_nil, or_false]; rintro d (rfl | rfl | rfl) h; (· exact HVR.out _); (· cases h); (· cases h)) ((Below.refl _ _).alloc (Nat.le_refl _) _)))
  try simp only [Act.put, List.setIfInBounds_toArray, List.set_cons_succ, List.set_cons_zero]
  refine GhostV.walk_yes (fun b => b) (fun γ => by rfl) ?_ ?_
  · intro γ L wx h1 h2 hx K hK
    obtain ⟨c0, c1, c2, c3, c4, c5, c6, c7⟩ := boxRow ((hx.below.block _ hsz).trans HROW.out)
    have HK2 := Lib.hid hK
    have HX := Lib.hid hx
    have H2 := Lib.hid h2
    clear hK h1 h2 hx
    go_simp
    (go_at_call 15; refine (FR.out A cap (γ 5) wx ((HC2.out.below HX.out.below).more HX.out.below.size) (HX.out.row (5, flts saneLoads) (by simp) (H2.out 5 (by kernel_rfl)))).mono ?_; rintro e w' ⟨u, rfl, hu, hb⟩; exact HK2.out _ _ (HX.out.make (by simp only [List.mem_cons, List.not_mem_nil, or_false]; rintro d (rfl | rfl | rfl) h; (· cases h); (· exact hu); (· cases h)) hb))
  try simp only [Act.put, List.setIfInBounds_toArray, List.set_cons_succ, List.set_cons_zero]
  refine GhostV.walk_yes (fun b => b) (fun γ => by rfl) ?_ ?_
  · intro γ L wx h1 h2 hx K hK
    obtain ⟨c0, c1, c2, c3, c4, c5, c6, c7⟩ := boxRow ((hx.below.block _ hsz).trans HROW.out)
    have HK2 := Lib.hid hK
    have HX := Lib.hid hx
    have H2 := Lib.hid h2
    clear hK h1 h2 hx
    go_simp
    (exact HK2.out _ _ (HX.out.make (by simp only [List.mem_cons, List.not_mem_nil, or_false]; rintro d (rfl | rfl | rfl) h; (· cases h); (· cases h); (· exact HX.out.row (6, nums [3, 3, 3, 2, 0, 4, 1]) (by simp) (H2.out 6 (by kernel_rfl)))) (Below.refl _ _)))
  try simp only [Act.put, List.setIfInBounds_toArray, List.set_cons_succ, List.set_cons_zero]
  refine GhostV.walk_nil (fun γ L w2 hall hG => ?_)
  have hV := hG.row (7, nums [3, 3, 3, 2, 0, 4, 1]) (by simp) (hall 7 (by decide))
  have hV' : VV w2 (γ 7) (nums [3, 3, 3, 2, 0, 4, 1]) := hV
  have e7 : (0 + 1 + 1 + 1 + 1 + 1 + 1 + 1 : Nat) = 7 := rfl
  simp only [e7]
  generalize γ 7 = v7 at *
  generalize γ (0 + 1 + 1 + 1 + 1 + 1) = v5 at *
  generalize γ (0 + 1 + 1 + 1 + 1 + 1 + 1) = v6 at *
  have HV := Lib.hid hV'
  have HBW := Lib.hid hG.below
  clear hV hV' hall hG
  have HVI := Lib.hid (fun wx : World => (vv_row (heap_alloc_new wx (.cells (nums [3, 3, 3, 2, 0, 4, 1]).toArray 3)) rfl : VV (wx.alloc (.cells (nums [3, 3, 3, 2, 0, 4, 1]).toArray 3)) (.slice (some ⟨wx.heap.size, 0, none⟩) 7 7) (nums [3, 3, 3, 2, 0, 4, 1])))
  go_wp2_with fail
  refine (same_any [3, 3, 3, 2, 0, 4, 1] [3, 3, 3, 2, 0, 4, 1] v7 _ _ (HV.out.below ((Below.refl _ _).alloc (Nat.le_refl _) _)) (HVI.out w2) (by decide) (by decide)).mono ?_
  rintro e w3 ⟨rfl, hb3⟩
  have hd : decide (([3, 3, 3, 2, 0, 4, 1] : List Int) = [3, 3, 3, 2, 0, 4, 1]) = true := by decide
  rw [hd]
  have hb4 : Below w2.heap.size w2 w3 := ((Below.refl _ _).alloc (Nat.le_refl _) _).trans (hb3.mono (by simp))
  have HB4 := Lib.hid (HBW.out.trans (hb4.mono HBW.out.size))
  obtain ⟨c0, c1, c2, c3, c4, c5, c6, c7⟩ := boxRow ((HB4.out.block _ hsz).trans HROW.out)
  clear hb3 hb4 hd
  go_wp2_with fail
  refine (FC.out A cap w3 ((HC2.out.below HB4.out).more HB4.out.size)).mono ?_
  rintro e w4 ⟨rfl, hb5⟩
  go_wp2_with fail
  go_ret
  exact ⟨rfl, HB2.out.trans ((HB4.out.trans (hb5.mono HB4.out.size)).mono HB2.out.size)⟩
end Go.Proofs.Ytaiciopfinlpiaa
