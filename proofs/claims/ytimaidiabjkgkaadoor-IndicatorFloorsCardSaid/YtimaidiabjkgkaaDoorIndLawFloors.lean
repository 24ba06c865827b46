/- The law IndicatorFloors: which position contacts stand for. No condition but the tables. -/
import Derived.Test.YtimaidiabjkgkaaDoorIndOpen
import Derived.Test.YtimaidiabjkgkaaDoorCards
import Derived.Test.YtimaidiabjkgkaaDoorTie
import Derived.SevenTiedAt
namespace Go.Proofs.YtimaidiabjkgkaaDoor
open Go Go.RowKit Go.ChangeShapes Go.WideShapes Go.ChangeAt

set_option linter.unusedVariables false
set_option maxHeartbeats 8000000 in
theorem lawIndicatorFloors_walk (fl b kx : Int) (w : World) (hT : Tabs w) (hfl : (Lit.int .i64 fl).wf = true) (hb : (Lit.int .u32 b).wf = true) (hk : (Lit.int .u8 kx).wf = true) :
    Calls Tryd.prog 3 #[.int .i64 fl, .int .u32 b, .int .u8 kx] w fun e w' => e = .returned (.bool true) ∧ Below w.heap.size w w' := by
  obtain ⟨b, rfl, hb32⟩ := u32_nat hb
  obtain ⟨n, rfl, hn⟩ := u8_nat hk
  clear hk hfl hb
  have hb := hb32
  clear hb32
  obtain ⟨r, hr⟩ : ∃ r : Nat, r = n % 32 := ⟨_, rfl⟩
  have hr32 : r < 32 := by omega
  have hm1 : (n : Int).tmod 32 = (r : Int) := by rw [Int.tmod_eq_emod_of_nonneg (by omega)]; omega
  have hm2 : (n : Int) % 32 = (r : Int) := by omega
  have hP := Ct.bit_lt hr32
  have hs := shl_one hr32
  have HT := Lib.hid (fun (w1 : World) (hb : Below w.heap.size w w1) => hT.below hb)
  generalize 2 ^ r = P at *
  have hor := u32_or_nat P b hP hb
  have hQ : P ||| b < 4294967296 := Nat.or_lt_two_pow (n := 32) hP hb
  generalize P ||| b = Q at *
  have F := Lib.hid (fun (z : Int) w hT => floor_any z b hb w hT)
  have F1 := Lib.hid (fun (z : Int) w hT => floor_any z P hP w hT)
  have F2 := Lib.hid (fun (z : Int) w hT => floor_any z Q hQ w hT)
  have R := Lib.hid (fun (z : Int) w => refFloor_any z b hb w)
  have R1 := Lib.hid (fun (z : Int) w => refFloor_any z P hP w)
  have R2 := Lib.hid (fun (z : Int) w => refFloor_any z Q hQ w)
  have HS := Lib.hid (fun w hT => sane_any w hT)
  clear hT hr hb hP hQ
  generalize (b : Int) = bI at *
  generalize (P : Int) = PI at *
  generalize (Q : Int) = QI at *
  go_enter Tryd.func3, Tryd.ntmps3
  go_wp2_with fail
  try simp only [hs]
  go_loopw [8] (fun v wr => ∃ k : Nat, k ≤ 36 ∧ v = .int .i64 ((k : Int) - 1) ∧ Below w.heap.size w wr) (fun v _ => 36 - (intOf v + 1).toNat)
  case atStart => exact ⟨0, Nat.zero_le _, rfl, Below.refl _ _⟩
  case round =>
    obtain ⟨k, hk, rfl, hbw⟩ := hrel
    have HB := Lib.hid hbw
    clear hbw
    obtain ⟨z, hz⟩ : ∃ z : Int, z = (k : Int) - 1 := ⟨_, rfl⟩
    have HZ := Lib.hid hz
    have hz1 : -1 ≤ z := by omega
    have hz2 : z ≤ 35 := by omega
    rw [← hz]
    clear hz hk
    by_cases hlt : z < 35
    · go_wp2_with fail
      refine (F.out z _ (HT.out _ HB.out)).mono ?_
      rintro e w1 ⟨rfl, h1⟩
      have HB1 := Lib.hid (HB.out.trans (h1.mono HB.out.size))
      clear h1 HB
      go_wp2_with fail
      refine (R.out z _).mono ?_
      rintro e w2 ⟨rfl, h2⟩
      have HB2 := Lib.hid (HB1.out.trans (h2.mono HB1.out.size))
      clear h2 HB1
      generalize Ind.floorI z b = v1 at *
      go_wp2_with fail
      refine (F1.out z _ (HT.out _ HB2.out)).mono ?_
      rintro e w3 ⟨rfl, h3⟩
      have HB3 := Lib.hid (HB2.out.trans (h3.mono HB2.out.size))
      clear h3 HB2
      go_wp2_with fail
      refine (R1.out z _).mono ?_
      rintro e w4 ⟨rfl, h4⟩
      have HB4 := Lib.hid (HB3.out.trans (h4.mono HB3.out.size))
      clear h4 HB3
      generalize Ind.floorI z P = v2 at *
      go_wp2_with fail
      refine (F2.out z _ (HT.out _ HB4.out)).mono ?_
      rintro e w5 ⟨rfl, h5⟩
      have HB5 := Lib.hid (HB4.out.trans (h5.mono HB4.out.size))
      clear h5 HB4
      go_wp2_with fail
      refine (R2.out z _).mono ?_
      rintro e w6 ⟨rfl, h6⟩
      have HB6 := Lib.hid (HB5.out.trans (h6.mono HB5.out.size))
      clear h6 HB5
      generalize Ind.floorI z Q = v3 at *
      go_wp2_with fail
      go_roundw
      case rel =>
        have := HZ.out
        exact ⟨k + 1, by omega, by go_num, HB6.out⟩
      case measure =>
        have := HZ.out
        simp [intOf]; omega
    · go_wp2_with fail
      refine (F.out fl _ (HT.out _ HB.out)).mono ?_
      rintro e w1 ⟨rfl, h1⟩
      have HB1 := Lib.hid (HB.out.trans (h1.mono HB.out.size))
      clear h1 HB
      go_wp2_with fail
      refine (R.out fl _).mono ?_
      rintro e w2 ⟨rfl, h2⟩
      have HB2 := Lib.hid (HB1.out.trans (h2.mono HB1.out.size))
      clear h2 HB1
      generalize Ind.floorI fl b = v1 at *
      go_wp2_with fail
      refine (HS.out _ (HT.out _ HB2.out)).mono ?_
      rintro e w3 ⟨rfl, h3⟩
      have HB3 := Lib.hid (HB2.out.trans (h3.mono HB2.out.size))
      clear h3 HB2
      go_wp2_with fail
      go_ret
      exact ⟨rfl, HB3.out⟩

set_option maxRecDepth 100000 in
theorem lawIndicatorFloors_lifted (os : Os) (started : os.Started) (H : Type) (enc : TypeId × Value → H) :
    ReturnsInHanded {} Tryd.checked os 3 .any (fun w args => (Rows.indicatorFloorsSpec.pre enc Tryd.prog Tryd.f3 [] false w args ∧ laidMetH Tryd.prog laidAll w) ∧ sizedMet enc Tryd.prog Tryd.f3 (OpenSpec.ofChange Rows.indicatorFloorsSpec) false w args) (Rows.indicatorFloorsSpec.post enc Tryd.prog Tryd.f3 false true false false) := by
  refine returnsInHanded_of_change_and (C := Tryd.checked) (X := fun w _ => laidMetH Tryd.prog laidAll w) (fun _ _ _ hh h => h.of_heap hh) own started (by kernel_rfl) Tryd.func3
    (ChangeSpec.witness_shaped (enc := enc) (C := Tryd.checked) (os := os) (X := fun w _ => laidMetH Tryd.prog laidAll w) false (World.doorLaid Tryd.prog 24 os) #[.int .i64 0, .int .u32 0, .int .u8 0] 8 rfl (World.shaped_of_RefB (by kernel_rfl) (by kernel_rfl)) (by kernel_rfl) (by kernel_rfl) (by kernel_rfl) (door_met os _)) ?_
  intro W base args ds gs before hval0 hW _ _ hL _
  have hval : ∀ (j : Nat) t v, Tryd.f3.params[j]? = some t → args[j]? = some v → Value.okWide Tryd.prog W .any base t v := hval0
  have hW' := hW
  obtain ⟨p, q, hA0, hV, rfl, hfz, hnd⟩ := hW
  have hA : DataW.TrodAll enc Tryd.prog W 0 (fun _ => true) true Tryd.f3.params.toList args.toList ds p := hA0
  rw [Tryd.params3] at hA hval
  obtain ⟨v0, vs0, d0, ds0, p0, q0, hargs, rfl, rfl, h0, r0⟩ := trodAll_cons hA
  obtain ⟨v1, vs1, d1, ds1, p1, q1, rfl, rfl, rfl, h1, r1⟩ := trodAll_cons r0
  obtain ⟨v2, vs2, d2, ds2, p2, q2, rfl, rfl, rfl, h2, r2⟩ := trodAll_cons r1
  obtain ⟨rfl, rfl, rfl⟩ := trodAll_nil r2
  obtain rfl : args = #[v0, v1, v2] := by cases args; simp_all
  obtain ⟨rfl, rfl⟩ := trodVars_none hV
  obtain ⟨x0, rfl, rfl, rfl, g0⟩ := open_int Tryd.underlying3 (hval 0 3 v0 rfl rfl) h0
  obtain ⟨x1, rfl, rfl, rfl, g1⟩ := open_int Tryd.underlying22 (hval 1 22 v1 rfl rfl) h1
  obtain ⟨x2, rfl, rfl, rfl, g2⟩ := open_int Tryd.underlying5 (hval 2 5 v2 rfl rfl) h2
  clear hA0 hval0
  refine (lawIndicatorFloors_walk x0 x1 x2 W (tabs_of_laid hL) g0 g1 g2).mono fun e W' ⟨he, bel⟩ => ?_
  subst he
  exact ⟨_, rfl, _, _, _, [], _, [], hW', trodAll_mk1 (shut_bool Tryd.underlying4 _), (trodAll_cons_mk (shut_int Tryd.underlying3 g0) (trodAll_cons_mk (shut_int Tryd.underlying22 g1) (trodAll_cons_mk (shut_int Tryd.underlying5 g2) trodAll_mk0))), rfl, bel.frame _, fun h => by cases h⟩

theorem lawIndicatorFloors_over : Rows.indicatorFloorsRow.holds Tryd.pinned (OpenSpec.ofChange Rows.indicatorFloorsSpec) :=
  OpenClaim.holds_of_wide 3 Tryd.f3 rfl rfl rfl rfl rfl rfl rfl ⟨rfl, rfl, rfl, rfl, rfl⟩ rfl rfl rfl rfl rfl (by kernel_rfl) Tryd.func3 (by kernel_rfl)
    (of_decide_eq_true (by kernel_rfl)) (by unfold Func.isWrapper; first | (rw [if_pos (by decide +kernel)]; kernel_rfl) | (rw [if_neg (by decide +kernel)]; exact ⟨rfl, rfl⟩))
    (fun os started H enc _ => lawIndicatorFloors_lifted os started H enc)

theorem indicatorFloors_card : Rows.IndicatorFloorsCardSaid :=
  Claim7.holds_tied_plain_at .later [] _ _ _ _ lawIndicatorFloors_over (fun _ h => by cases h) (by kernel_rfl) (fun _ h => by cases h) indicatorFloors_row_tie rfl ⟨rfl, rfl⟩ (by kernel_rfl) rfl
    (fun f fn hf hfn => by
      obtain rfl : f = 3 := Option.some.inj ((show Tryd.prog.funcNamed "overlay/overlaylaw05.IndicatorFloors" = some 3 by kernel_rfl).symm.trans hf) |>.symm
      obtain rfl : fn = Tryd.f3 := (Option.some.inj (Tryd.func3.symm.trans hfn)).symm
      exact ⟨by kernel_rfl, fun j t ht => by
        rw [Tryd.params3] at ht
        have hm : t ∈ [3, 22, 5] := by simpa using Array.mem_of_getElem? ht
        have hall : ([3, 22, 5].all fun u => !Tryd.prog.wantsStandIn u) = true := by kernel_rfl
        exact (show Tryd.prog.wantsStandIn t = false by simpa using List.all_eq_true.1 hall t hm)⟩)
    (by kernel_rfl)
#print axioms indicatorFloors_card
end Go.Proofs.YtimaidiabjkgkaaDoor
