/- The law ParkEnds: a car that follows Move comes to its Home with as many steps as it is away from there, and stays. No condition. -/
import Derived.Test.YtgfejleemacabaaPkSane
import Derived.Test.YtgfejleemacabaaPkOpen
import Derived.Test.YtgfejleemacabaaBag
namespace Go.Proofs.Ytgfejleemacabaa
open Go.RowKit Go.ChangeShapes Go.WideShapes Go.ChangeAt

theorem CarsAt.home {w : World} {B : Nat} {A : Option Addr} {cs : List CarD} (h : CarsAt w B A cs) {k : Nat} (hk : k < cs.length) :
    ∃ b off, A = some ⟨b, off, none⟩ ∧ b < B ∧ w.cell? ⟨b, off + k * 9 + 8, none⟩ = some (.int .i64 cs[k].home) := by
  obtain ⟨b, off, c1, c2, c3, c4, c5, c6, c7, c8, c9, hA, hb, hc, -, -, -, -, -, -, -, -, h8⟩ := h.at_ hk
  rw [hc.out]
  exact ⟨b, off, hA, hb, h8⟩

def EndsR (D : Nat) (hm : Int) (k : Nat) (fl : Int) : Prop :=
  (k : Int) = (D : Int) + 1 ∧ fl = hm ∨ (k : Int) = (D : Int) ∧ fl = hm ∨ (k < D ∧ fl < hm ∧ hm - fl = (D : Int) - (k : Int)) ∨ (k < D ∧ hm < fl ∧ fl - hm = (D : Int) - (k : Int))

set_option maxHeartbeats 4000000 in
theorem lawParkEnds_walk (x0 x1 x2 : Int) (w : World) (h0 : (Lit.int .u8 x0).wf = true) (h1 : (Lit.int .u8 x1).wf = true) (h2 : (Lit.int .u8 x2).wf = true) :
    Calls Try.prog 4 #[.int .u8 x0, .int .u8 x1, .int .u8 x2] w fun e w' => e = .returned (.bool true) ∧ Below w.heap.size w w' := by
  obtain ⟨n, rfl, hn⟩ := u8_nat h0
  obtain ⟨y, rfl, hy⟩ := u8_nat h1
  obtain ⟨z, rfl, hz⟩ := u8_nat h2
  clear h0 h1 h2
  have FSN := Lib.hid (fun wx => sane_any wx)
  have hB := fun wx => building_any n wx hn
  have hv : validE (sampleD ((2 + n % 31 : Nat) : Int) (1 + n / 31 % 8)) = 0 := sample_valid _ _ (by omega) (by omega) (by omega) (by omega)
  have hsl : (sampleD ((2 + n % 31 : Nat) : Int) (1 + n / 31 % 8)).cars = sampleCars ((2 + n % 31 : Nat) : Int) (1 + n / 31 % 8) := rfl
  rw [← hsl] at hB
  generalize sampleD ((2 + n % 31 : Nat) : Int) (1 + n / 31 % 8) = b at *
  clear hsl
  obtain ⟨⟨hf1, hf2⟩, ⟨hc1, hc2⟩, hhs, hp1, hp2⟩ := fineP_of hv
  have hM := fun (k : Nat) A cap fl wx (hk : k < b.cars.length) (h1 : 0 ≤ fl) (h2 : fl < b.floors) hc => moveF_good hv hk ⟨h1, h2⟩ (Int.le_refl _) ▸ move_any b A cap k b.park fl wx (by omega) hc
  obtain ⟨k, hk⟩ : ∃ k, k = y % b.cars.length := ⟨_, rfl⟩
  have hkl : k < b.cars.length := by rw [hk]; exact Nat.mod_lt _ (by omega)
  have hm1 : (y : Int).tmod (b.cars.length : Int) = (k : Int) := by rw [Int.tmod_eq_emod_of_nonneg (by omega), hk]; omega
  obtain ⟨q, hq⟩ : ∃ q, q = (z : Int) % b.floors := ⟨_, rfl⟩
  have hq1 : 0 ≤ q := by rw [hq]; exact Int.emod_nonneg _ (by omega)
  have hq2 : q < b.floors := by rw [hq]; exact Int.emod_lt_of_pos _ (by omega)
  have hm2 : (z : Int).tmod b.floors = q := by rw [Int.tmod_eq_emod_of_nonneg (by omega), hq]
  have hM := fun A cap fl wx => hM k A cap fl wx hkl
  obtain ⟨hh1, hh2⟩ := hhs k hkl
  have hHm := fun (W : World) A (h : CarsAt W W.heap.size A b.cars) => h.home hkl
  clear hhs hq hk hv
  generalize b.cars[k].home = hm at *
  obtain ⟨f, d, r, p, e1, e2, e3, cs⟩ := b
  simp only [BldD.agg] at *
  have FB := Lib.hid hB
  have FM := Lib.hid hM
  have FH := Lib.hid hHm
  clear hB hM hHm
  have hy1 : IntKind.i64.wrap (y : Int) = y := IntWalk.i64_in _ (by omega)
  have hz1 : IntKind.i64.wrap (z : Int) = z := IntWalk.i64_in _ (by omega)
  have hnz1 : ¬ ((cs.length : Int) = 0) := by omega
  have hnz2 : ¬ (f = 0) := by omega
  have hnz3 : ¬ (cs.length = 0) := by omega
  go_enter Try.func4, Try.ntmps4
  go_wp2_with fail
  refine (FB.out _).mono ?_
  rintro e w1 ⟨hb1, A, cap, rfl, hcars⟩
  have hbx := BX.new (f := f) (d := d) (r := r) (p := p) (e1 := e1) (e2 := e2) (e3 := e3) (cap := cap) hcars
  obtain ⟨W, hW⟩ : ∃ W, W = w1.alloc (.cells #[.int .i64 f, .int .i64 d, .int .i64 r, .int .i64 p, .float .f64 e1, .float .f64 e2, .float .f64 e3, .slice A cs.length cap] 25) := ⟨_, rfl⟩
  rw [← hW] at hbx
  have HB1 := Lib.hid (show Below w.heap.size w W by rw [hW]; exact hb1.alloc hb1.size _)
  have HZ := Lib.hid HB1.out.size
  obtain ⟨g, off, rfl, hg, h8⟩ := FH.out W A hbx.cars
  have HH := Lib.hid (fun wx (h : Below W.heap.size W wx) => (h.cell (p := ⟨g, off + k * 9 + 8, none⟩) hg).trans h8)
  have HBX := Lib.hid hbx
  clear hb1 hcars hbx h8 FH
  go_wp2_with fail
  rw [← hW]
  refine Bag.region (fun wx => Below W.heap.size W wx) (by kernel_rfl) (by kernel_rfl) (Below.refl _ _).drew ?_
  iterate 13 (first
      | (apply Bag.walk_yes (by rfl)
         (intro wx hx K hK
          obtain ⟨c0, c1, c2, c3, c4, c5, c6, c7⟩ := (HBX.out.below hx).cells
          first
            | (go_simp
               first
                | (go_at_K; exact hK _ hx)))
         rfl)
      | (refine Bag.walk_no (by rfl) ?_; simp only [Act.put, List.setIfInBounds_toArray, List.set_cons_succ, List.set_cons_zero]))
  refine Bag.walk_nil (fun w3 hB3 => ?_)
  have HB3 := Lib.hid hB3
  clear hB3 hm1 hm2 hy1 hz1
  by_cases hlt : q - hm < hm - q
  · obtain ⟨D, hD⟩ : ∃ D : Nat, hm - q = D := ⟨(hm - q).toNat, by omega⟩
    have HD := Lib.hid hD
    clear hD
    have hdd : q - hm < hm - q := hlt
    have wq : IntKind.i64.wrap (q - hm) = q - hm := IntWalk.i64_in _ (by omega)
    have wh : IntKind.i64.wrap (hm - q) = hm - q := IntWalk.i64_in _ (by omega)
    go_wp2_with fail
    refine Bag.region (fun wx => Below W.heap.size W wx) (by kernel_rfl) (by kernel_rfl) HB3.out.drew ?_
    iterate 18 (first
        | (apply Bag.walk_yes (by rfl)
           (intro wx hx K hK
            obtain ⟨c0, c1, c2, c3, c4, c5, c6, c7⟩ := (HBX.out.below hx).cells
            have h8 := HH.out wx hx
            first
              | (go_simp
                 first
                  | (go_at_K; exact hK _ hx)))
           rfl)
        | (refine Bag.walk_no (by rfl) ?_; simp only [Act.put, List.setIfInBounds_toArray, List.set_cons_succ, List.set_cons_zero]))
    refine Bag.walk_nil (fun w4 hB4 => ?_)
    have HB4 := Lib.hid hB4
    clear hB4
    go_wp2_with fail
    have hD := HD.out
    rw [hD]
    clear hdd wq wh
    go_loopw [9, 11] (fun fv i wr => ∃ (k : Nat) (fl : Int), k ≤ D + 1 ∧ i = .int .i64 k ∧ fv = .int .i64 fl ∧ (0 ≤ fl ∧ fl < f) ∧ EndsR D hm k fl ∧ Below W.heap.size W wr) (fun _ i _ => D + 1 - (intOf i).toNat)
    case atStart => exact ⟨0, q, by omega, rfl, rfl, ⟨hq1, hq2⟩, by unfold EndsR; omega, HB4.out⟩
    case round =>
      obtain ⟨k, fl, hk, rfl, rfl, ⟨hl1, hl2⟩, hor, hbw⟩ := hrel
      have HW := Lib.hid hbw
      have HBR := Lib.hid (HBX.out.below hbw)
      obtain ⟨c0, c1, c2, c3, c4, c5, c6, c7⟩ := HBR.out.cells
      clear hbw
      rcases hor with ⟨ho1, ho2⟩ | ⟨ho1, ho2⟩ | ⟨ho1, ho2, ho3⟩ | ⟨ho1, ho2, ho3⟩
      · obtain rfl : k = D + 1 := by omega
        subst ho2
        have h8 := HH.out _ HW.out
        go_wp2_with fail
        refine (FSN.out _).mono ?_
        rintro e w5 ⟨rfl, hb5⟩
        go_wp2_with fail
        go_ret
        exact ⟨rfl, HB1.out.trans ((HW.out.trans (hb5.mono HW.out.size)).mono HZ.out)⟩
      · obtain rfl : k = D := by omega
        subst ho2
        go_wp2_with fail
        refine (FM.out (some ⟨g, off, none⟩) cap fl _ hl1 hl2 HBR.out.cars).mono ?_
        rw [towardF_same]
        rintro e w5 ⟨rfl, hb5⟩
        clear c0 c1 c2 c3 c4 c5 c6 c7
        go_wp2_with fail
        go_roundw
        case rel => exact ⟨k + 1, fl, by omega, by go_num, rfl, ⟨hl1, hl2⟩, by unfold EndsR; omega, HW.out.trans (hb5.mono HW.out.size)⟩
        case measure => simp [intOf]
      · go_wp2_with fail
        refine (FM.out (some ⟨g, off, none⟩) cap fl _ hl1 hl2 HBR.out.cars).mono ?_
        rw [towardF_up ho2]
        rintro e w5 ⟨rfl, hb5⟩
        clear c0 c1 c2 c3 c4 c5 c6 c7
        go_wp2_with fail
        go_roundw
        case rel => exact ⟨k + 1, fl + 1, by omega, by go_num, by go_num, ⟨by omega, by omega⟩, by unfold EndsR; omega, HW.out.trans (hb5.mono HW.out.size)⟩
        case measure => simp [intOf]; omega
      · go_wp2_with fail
        refine (FM.out (some ⟨g, off, none⟩) cap fl _ hl1 hl2 HBR.out.cars).mono ?_
        rw [towardF_down ho2]
        rintro e w5 ⟨rfl, hb5⟩
        clear c0 c1 c2 c3 c4 c5 c6 c7
        go_wp2_with fail
        go_roundw
        case rel => exact ⟨k + 1, fl - 1, by omega, by go_num, by go_num, ⟨by omega, by omega⟩, by unfold EndsR; omega, HW.out.trans (hb5.mono HW.out.size)⟩
        case measure => simp [intOf]; omega
  · obtain ⟨D, hD⟩ : ∃ D : Nat, q - hm = D := ⟨(q - hm).toNat, by omega⟩
    have HD := Lib.hid hD
    clear hD
    have hdd : ¬ q - hm < hm - q := hlt
    have wq : IntKind.i64.wrap (q - hm) = q - hm := IntWalk.i64_in _ (by omega)
    have wh : IntKind.i64.wrap (hm - q) = hm - q := IntWalk.i64_in _ (by omega)
    go_wp2_with fail
    refine Bag.region (fun wx => Below W.heap.size W wx) (by kernel_rfl) (by kernel_rfl) HB3.out.drew ?_
    iterate 18 (first
        | (apply Bag.walk_yes (by rfl)
           (intro wx hx K hK
            obtain ⟨c0, c1, c2, c3, c4, c5, c6, c7⟩ := (HBX.out.below hx).cells
            have h8 := HH.out wx hx
            first
              | (go_simp
                 first
                  | (go_at_K; exact hK _ hx)))
           rfl)
        | (refine Bag.walk_no (by rfl) ?_; simp only [Act.put, List.setIfInBounds_toArray, List.set_cons_succ, List.set_cons_zero]))
    refine Bag.walk_nil (fun w4 hB4 => ?_)
    have HB4 := Lib.hid hB4
    clear hB4
    go_wp2_with fail
    have hD := HD.out
    rw [hD]
    clear hdd wq wh
    go_loopw [9, 11] (fun fv i wr => ∃ (k : Nat) (fl : Int), k ≤ D + 1 ∧ i = .int .i64 k ∧ fv = .int .i64 fl ∧ (0 ≤ fl ∧ fl < f) ∧ EndsR D hm k fl ∧ Below W.heap.size W wr) (fun _ i _ => D + 1 - (intOf i).toNat)
    case atStart => exact ⟨0, q, by omega, rfl, rfl, ⟨hq1, hq2⟩, by unfold EndsR; omega, HB4.out⟩
    case round =>
      obtain ⟨k, fl, hk, rfl, rfl, ⟨hl1, hl2⟩, hor, hbw⟩ := hrel
      have HW := Lib.hid hbw
      have HBR := Lib.hid (HBX.out.below hbw)
      obtain ⟨c0, c1, c2, c3, c4, c5, c6, c7⟩ := HBR.out.cells
      clear hbw
      rcases hor with ⟨ho1, ho2⟩ | ⟨ho1, ho2⟩ | ⟨ho1, ho2, ho3⟩ | ⟨ho1, ho2, ho3⟩
      · obtain rfl : k = D + 1 := by omega
        subst ho2
        have h8 := HH.out _ HW.out
        go_wp2_with fail
        refine (FSN.out _).mono ?_
        rintro e w5 ⟨rfl, hb5⟩
        go_wp2_with fail
        go_ret
        exact ⟨rfl, HB1.out.trans ((HW.out.trans (hb5.mono HW.out.size)).mono HZ.out)⟩
      · obtain rfl : k = D := by omega
        subst ho2
        go_wp2_with fail
        refine (FM.out (some ⟨g, off, none⟩) cap fl _ hl1 hl2 HBR.out.cars).mono ?_
        rw [towardF_same]
        rintro e w5 ⟨rfl, hb5⟩
        clear c0 c1 c2 c3 c4 c5 c6 c7
        go_wp2_with fail
        go_roundw
        case rel => exact ⟨k + 1, fl, by omega, by go_num, rfl, ⟨hl1, hl2⟩, by unfold EndsR; omega, HW.out.trans (hb5.mono HW.out.size)⟩
        case measure => simp [intOf]
      · go_wp2_with fail
        refine (FM.out (some ⟨g, off, none⟩) cap fl _ hl1 hl2 HBR.out.cars).mono ?_
        rw [towardF_up ho2]
        rintro e w5 ⟨rfl, hb5⟩
        clear c0 c1 c2 c3 c4 c5 c6 c7
        go_wp2_with fail
        go_roundw
        case rel => exact ⟨k + 1, fl + 1, by omega, by go_num, by go_num, ⟨by omega, by omega⟩, by unfold EndsR; omega, HW.out.trans (hb5.mono HW.out.size)⟩
        case measure => simp [intOf]; omega
      · go_wp2_with fail
        refine (FM.out (some ⟨g, off, none⟩) cap fl _ hl1 hl2 HBR.out.cars).mono ?_
        rw [towardF_down ho2]
        rintro e w5 ⟨rfl, hb5⟩
        clear c0 c1 c2 c3 c4 c5 c6 c7
        go_wp2_with fail
        go_roundw
        case rel => exact ⟨k + 1, fl - 1, by omega, by go_num, by go_num, ⟨by omega, by omega⟩, by unfold EndsR; omega, HW.out.trans (hb5.mono HW.out.size)⟩
        case measure => simp [intOf]; omega
set_option maxRecDepth 100000 in
theorem lawParkEnds_lifted (os : Os) (started : os.Started) (H : Type) (enc : TypeId × Value → H) :
    ReturnsInHanded {} Try.checked os 4 .any (Rows.parkEndsSpec.pre6 enc Try.prog Try.f4 Rows.parkEndsRow.domain false) (Rows.parkEndsSpec.post enc Try.prog Try.f4 false true false false) := by
  refine returnsInHanded_of_change (C := Try.checked) own started (by kernel_rfl) Try.func4
    (ChangeSpec.witness6 (enc := enc) (C := Try.checked) false ⟨#[], #[.int .u8 0, .int .u8 0, .int .u8 0], []⟩ 8 (by kernel_rfl) (by kernel_rfl) (by kernel_rfl) (by kernel_rfl)) ?_
  intro W base args ds gs before hval0 hW hcnd _
  have hval : ∀ (j : Nat) t v, Try.f4.params[j]? = some t → args[j]? = some v → Value.okWide Try.prog W .any base t v := hval0
  have hW' := hW
  obtain ⟨p, q, hA0, hV, rfl, hfz, hnd⟩ := hW
  have hA : DataW.TrodAll enc Try.prog W 0 (fun _ => true) true Try.f4.params.toList args.toList ds p := hA0
  rw [Try.params4] at hA hval
  obtain ⟨v0, vs0, d0, ds0, p0, q0, hargs, rfl, rfl, h0, r0⟩ := trodAll_cons hA
  obtain ⟨v1, vs1, d1, ds1, p1, q1, rfl, rfl, rfl, h1, r1⟩ := trodAll_cons r0
  obtain ⟨v2, vs2, d2, ds2, p2, q2, rfl, rfl, rfl, h2, r2⟩ := trodAll_cons r1
  obtain ⟨rfl, rfl, rfl⟩ := trodAll_nil r2
  obtain rfl : args = #[v0, v1, v2] := by cases args; simp_all
  obtain ⟨rfl, rfl⟩ := trodVars_none hV
  obtain ⟨x0, rfl, rfl, rfl, g0⟩ := open_int Try.underlying5 (hval 0 5 v0 rfl rfl) h0
  obtain ⟨x1, rfl, rfl, rfl, g1⟩ := open_int Try.underlying5 (hval 1 5 v1 rfl rfl) h1
  obtain ⟨x2, rfl, rfl, rfl, g2⟩ := open_int Try.underlying5 (hval 2 5 v2 rfl rfl) h2
  clear hA0 hval0
  refine (lawParkEnds_walk x0 x1 x2 W g0 g1 g2).mono fun e W' ⟨he, bel⟩ => ?_
  subst he
  exact ⟨_, rfl, _, _, _, [], _, [], hW', trodAll_mk1 (shut_bool Try.underlying4 _), (trodAll_cons_mk (shut_int Try.underlying5 g0) (trodAll_cons_mk (shut_int Try.underlying5 g1) (trodAll_cons_mk (shut_int Try.underlying5 g2) trodAll_mk0))), rfl, bel.frame _, fun h => by cases h⟩

theorem lawParkEnds_over : Rows.parkEndsRow.holds Try.pinned (OpenSpec.ofChange Rows.parkEndsSpec) :=
  OpenClaim.holds_of_wide 4 Try.f4 rfl rfl rfl rfl rfl rfl rfl ⟨rfl, rfl, rfl, rfl, rfl⟩ rfl rfl rfl rfl rfl (by kernel_rfl) Try.func4 (by kernel_rfl)
    (of_decide_eq_true (by kernel_rfl)) (by unfold Func.isWrapper; first | (rw [if_pos (by decide +kernel)]; kernel_rfl) | (rw [if_neg (by decide +kernel)]; exact ⟨rfl, rfl⟩))
    (fun os started H enc _ => lawParkEnds_lifted os started H enc)

theorem parkEnds_holds : Rows.ParkEndsSaid := lawParkEnds_over
#print axioms parkEnds_holds
end Go.Proofs.Ytgfejleemacabaa
