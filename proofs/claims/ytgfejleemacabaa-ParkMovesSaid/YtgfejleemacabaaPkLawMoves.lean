/- The law ParkMoves: what an idle car does at every floor, for any idle time, and for arbitrary buildings. No condition. -/
import Derived.Test.YtgfejleemacabaaPkSane
import Derived.Test.YtgfejleemacabaaPkOpen
import Derived.Test.YtgfejleemacabaaBag
namespace Go.Proofs.Ytgfejleemacabaa
open Go.RowKit Go.ChangeShapes Go.WideShapes Go.ChangeAt

set_option maxHeartbeats 8000000 in
theorem lawParkMoves_walk (x0 : Int) (rb : BldD) (rA : Option Addr) (rcap : Nat) (q0 q1 q2 : Int) (w : World) (h0 : (Lit.int .u8 x0).wf = true) (hrc : CarsAt w w.heap.size rA rb.cars) (hrl : rb.cars.length ≤ 9223372036854775807)
    (_ : (Lit.int .i64 q0).wf = true) (_ : (Lit.int .i64 q1).wf = true) (_ : (Lit.int .i64 q2).wf = true) :
    Calls Try.prog 3 #[.int .u8 x0, rb.agg rA rcap, .agg #[.int .i64 q0, .int .i64 q1, .int .i64 q2]] w fun e w' => e = .returned (.bool true) ∧ Below w.heap.size w w' := by
  obtain ⟨n, rfl, hn⟩ := u8_nat h0
  have FSN := Lib.hid (fun wx => sane_any wx)
  by_cases hlen : 20 < rb.cars.length
  · obtain ⟨rf, rd, rr, rp, re1, re2, re3, rcs⟩ := rb
    simp only [BldD.agg] at hlen hrl ⊢
    clear hrc
    go_enter Try.func3, Try.ntmps3
    go_wp2_with fail
    refine (FSN.out _).mono ?_
    rintro e w2 ⟨rfl, hb2⟩
    go_wp2_with fail
    go_ret
    exact ⟨rfl, (((Below.refl w.heap.size w).alloc (Nat.le_refl _) _).alloc (by simp) _).trans (hb2.mono (by simp; omega))⟩
  · have hB := fun wx => building_any n wx hn
    have hv : validE (sampleD ((2 + n % 31 : Nat) : Int) (1 + n / 31 % 8)) = 0 := sample_valid _ _ (by omega) (by omega) (by omega) (by omega)
    have hsl : (sampleD ((2 + n % 31 : Nat) : Int) (1 + n / 31 % 8)).cars = sampleCars ((2 + n % 31 : Nat) : Int) (1 + n / 31 % 8) := rfl
    rw [← hsl] at hB
    generalize sampleD ((2 + n % 31 : Nat) : Int) (1 + n / 31 % 8) = b at *
    clear hsl h0
    obtain ⟨⟨hf1, hf2⟩, ⟨hc1, hc2⟩, -, hp1, hp2⟩ := fineP_of hv
    have hM := fun A cap c i fl wx hc => move_any b A cap c i fl wx (by omega) hc
    have hR := fun A cap c i fl wx hc => refMove_any b A cap c i fl wx (by omega) hc
    have hM2 := fun A cap c i fl wx hc => move_any rb A cap c i fl wx (by omega) hc
    have hR2 := fun A cap c i fl wx hc => refMove_any rb A cap c i fl wx (by omega) hc
    generalize moveF b = M at *
    generalize moveF rb = M2 at *
    clear hv
    obtain ⟨f, d, r, p, e1, e2, e3, cs⟩ := b
    obtain ⟨rf, rd, rr, rp, re1, re2, re3, rcs⟩ := rb
    simp only [BldD.agg] at hB hM hR hM2 hR2 hlen hrl hrc hf1 hf2 hc1 hc2 hp1 hp2 ⊢
    have FB := Lib.hid hB
    have FM := Lib.hid hM
    have FR := Lib.hid hR
    have FM2 := Lib.hid hM2
    have FR2 := Lib.hid hR2
    have HRC := Lib.hid hrc
    clear hB hM hR hM2 hR2 hrc
    go_enter Try.func3, Try.ntmps3
    go_wp2_with fail
    refine (FB.out _).mono ?_
    rintro e w1 ⟨hb1, A, cap, rfl, hcars⟩
    have hb1' : Below (w.heap.size + 2) ((w.alloc (.cells #[.int .i64 rf, .int .i64 rd, .int .i64 rr, .int .i64 rp, .float .f64 re1, .float .f64 re2, .float .f64 re3, .slice rA rcs.length rcap] 25)).alloc (.cells #[.int .i64 q0, .int .i64 q1, .int .i64 q2] 26)) w1 := hb1.mono (by simp)
    have hrb := ((BX.new (f := rf) (d := rd) (r := rr) (p := rp) (e1 := re1) (e2 := re2) (e3 := re3) (cap := rcap) HRC.out).below ((Below.refl _ _).alloc (Nat.le_refl _) (.cells #[.int .i64 q0, .int .i64 q1, .int .i64 q2] 26))).below hb1
    have hbx := BX.new (f := f) (d := d) (r := r) (p := p) (e1 := e1) (e2 := e2) (e3 := e3) (cap := cap) hcars
    have hal := (Below.refl w1.heap.size w1).alloc (Nat.le_refl _) (.cells #[.int .i64 f, .int .i64 d, .int .i64 r, .int .i64 p, .float .f64 e1, .float .f64 e2, .float .f64 e3, .slice A cs.length cap] 25)
    have hqx : w1.heap[w.heap.size + 1]? = some (.cells #[.int .i64 q0, .int .i64 q1, .int .i64 q2] 26 (0, 0)) := by
      refine (hb1'.block _ (by omega)).trans ?_
      have := heap_alloc_new (w.alloc (.cells #[.int .i64 rf, .int .i64 rd, .int .i64 rr, .int .i64 rp, .float .f64 re1, .float .f64 re2, .float .f64 re3, .slice rA rcs.length rcap] 25)) (.cells #[.int .i64 q0, .int .i64 q1, .int .i64 q2] 26)
      simpa using this
    have hz1 : w.heap.size + 2 ≤ w1.heap.size := by have := hb1'.size; simpa using this
    go_wp2_with fail
    obtain ⟨W, hW⟩ : ∃ W, W = w1.alloc (.cells #[.int .i64 f, .int .i64 d, .int .i64 r, .int .i64 p, .float .f64 e1, .float .f64 e2, .float .f64 e3, .slice A cs.length cap] 25) := ⟨_, rfl⟩
    rw [← hW] at hbx hal ⊢
    have hzW : W.heap.size = w1.heap.size + 1 := by rw [hW]; simp
    have HRB := Lib.hid (hrb.below hal)
    have HBX := Lib.hid hbx
    have HQX := Lib.hid ((hal.block _ (by omega)).trans hqx)
    have HB1 := Lib.hid (show Below w.heap.size w W from (((Below.refl w.heap.size w).alloc (Nat.le_refl _) (.cells #[.int .i64 rf, .int .i64 rd, .int .i64 rr, .int .i64 rp, .float .f64 re1, .float .f64 re2, .float .f64 re3, .slice rA rcs.length rcap] 25)).alloc (by simp) (.cells #[.int .i64 q0, .int .i64 q1, .int .i64 q2] 26)).trans ((hb1'.mono (by omega)).trans (hal.mono (by omega))))
    have hzw : w.heap.size + 3 ≤ W.heap.size := by omega
    have hqc : ∀ wx, Below W.heap.size W wx → wx.cell? ⟨w.heap.size + 1, 0, none⟩ = some (.int .i64 q0) ∧ wx.cell? ⟨w.heap.size + 1, 1, none⟩ = some (.int .i64 q1) ∧ wx.cell? ⟨w.heap.size + 1, 2, none⟩ = some (.int .i64 q2) := fun wx h => by
      have hr := (h.block _ (by omega)).trans HQX.out
      exact ⟨cell_of_row _ _ _ _ _ (0, 0) hr, cell_of_row _ _ _ _ _ (0, 0) hr, cell_of_row _ _ _ _ _ (0, 0) hr⟩
    have HQ := Lib.hid hqc
    clear hb1 hb1' hcars hrb hbx hal hqx hW hzW hz1 FB HRC HQX hqc
    generalize decide ((20 : Int) < (rcs.length : Int)) = dq
    go_loopw [8] (fun i wr => ∃ z : Int, i = .int .i64 z ∧ -1 ≤ z ∧ z ≤ (cs.length : Int) + 1 ∧ Below W.heap.size W wr) (fun i _ => ((cs.length : Int) + 1 - intOf i).toNat)
    case atStart => exact ⟨-1, rfl, by omega, by omega, Below.refl _ _⟩
    case round =>
      obtain ⟨z, rfl, hz1, hz2, hbw⟩ := hrel
      by_cases hzl : z ≤ (cs.length : Int)
      · have c7 := (HBX.out.below hbw).cells.2.2.2.2.2.2.2
        have HW := Lib.hid hbw
        clear hbw
        go_wp2_with fail
        clear c7
        go_loopw [9] (fun i wr => ∃ y : Int, i = .int .i64 y ∧ -1 ≤ y ∧ y ≤ f + 1 ∧ Below W.heap.size W wr) (fun i _ => (f + 1 - intOf i).toNat)
        case atStart => exact ⟨-1, rfl, by omega, by omega, HW.out⟩
        case round =>
          obtain ⟨y, rfl, hy1, hy2, hbw⟩ := hrel
          by_cases hyl : y ≤ f
          · obtain ⟨c0, c1, c2, c3, c4, c5, c6, c7⟩ := (HBX.out.below hbw).cells
            obtain ⟨k0, k1, k2⟩ := HQ.out _ hbw
            have HW2 := Lib.hid hbw
            have hzr := hbw.size
            clear hbw
            go_wp2_with fail
            obtain ⟨W3, hW3⟩ : ∃ W3, W3 = wr.alloc (.cells #[.int .i64 0, .int .i64 (p - 1), .int .i64 p, .int .i64 q1] 3) := ⟨_, rfl⟩
            rw [← hW3]
            have hrow : W3.heap[wr.heap.size]? = some (.cells (nums [0, p - 1, p, q1]).toArray 3 (0, 0)) := by rw [hW3]; exact heap_alloc_new _ _
            have hgz : wr.heap.size < W3.heap.size := by rw [hW3]; simp
            have HW3 := Lib.hid (show Below W.heap.size W W3 by rw [hW3]; exact HW2.out.alloc HW2.out.size _)
            generalize wr.heap.size = g at *
            have HROW := Lib.hid (And.intro hrow hgz)
            have HL4 : Hid ((nums [0, p - 1, p, q1]).length = 4) := (rfl : (nums [0, p - 1, p, q1]).length = 4)
            generalize [0, p - 1, p, q1] = L at *
            have hL4 : L.length = 4 := by rw [← nums_len]; exact HL4.out
            clear hW3 hrow c0 c1 c2 c3 c4 c5 c6 c7 k0 k1 k2 HL4
            go_loopw [41] (fun i wr => ∃ k : Nat, k ≤ 4 ∧ i = .int .i64 k ∧ Below W3.heap.size W3 wr) (fun i _ => 4 - (intOf i).toNat)
            case atStart => exact ⟨0, by omega, rfl, Below.refl _ _⟩
            case round =>
              obtain ⟨k, hk, rfl, hbk⟩ := hrel
              by_cases hkl : k < 4
              · have hkL : k < L.length := by omega
                have y0 : wr.cell? ⟨g, k, none⟩ = some (.int .i64 L[k]) := (cell_of_row _ _ _ _ _ (0, 0) ((hbk.block _ hgz).trans HROW.out.1)).trans (by simp [nums, hkL])
                have HWK := Lib.hid hbk
                have HWA := Lib.hid (HW3.out.trans (hbk.mono HW3.out.size))
                clear hbk
                generalize L[k] = iv at *
                go_wp2_with fail
                clear y0
                refine Bag.region (fun wx => Below wr.heap.size wr wx) (by kernel_rfl) (by kernel_rfl) (Below.refl _ _).drew ?_
                iterate 11 (first
                    | (apply Bag.walk_yes (by rfl)
                       (intro wx hx K hK
                        obtain ⟨c0, c1, c2, c3, c4, c5, c6, c7⟩ := (HBX.out.below (HWA.out.trans (hx.mono HWA.out.size))).cells
                        first
                          | (go_simp
                             first
                              | (go_at_call 8; (with_reducible refine (FM.out A cap z iv y wx (HBX.out.below (HWA.out.trans (hx.mono HWA.out.size))).cars).mono ?_); rintro e w' ⟨rfl, hb⟩; exact hK _ (hx.trans (hb.mono hx.size)))
                              | (go_at_call 9; (with_reducible refine (FR.out A cap z iv y wx (HBX.out.below (HWA.out.trans (hx.mono HWA.out.size))).cars).mono ?_); rintro e w' ⟨rfl, hb⟩; exact hK _ (hx.trans (hb.mono hx.size)))
                              | (go_at_K; exact hK _ hx)))
                       rfl)
                    | (refine Bag.walk_no (by rfl) ?_; simp only [Act.put, List.setIfInBounds_toArray, List.set_cons_succ, List.set_cons_zero]))
                refine Bag.walk_nil (fun w4 hB4 => ?_)
                go_wp2_with fail
                go_roundw
                case rel => exact ⟨k + 1, by omega, by go_num, HWK.out.trans (hB4.mono HWK.out.size)⟩
                case measure => simp [intOf]; omega
              · obtain rfl : k = 4 := by omega
                go_wp2_with fail
                go_roundw
                case rel => exact ⟨y + 1, by go_num, by omega, by omega, HW3.out.trans (hbk.mono HW3.out.size)⟩
                case measure => simp [intOf]; omega
          · obtain rfl : y = f + 1 := by omega
            have c0 := (HBX.out.below hbw).cells.1
            go_wp2_with fail
            go_roundw
            case rel => exact ⟨z + 1, by go_num, by omega, by omega, hbw⟩
            case measure => simp [intOf]; omega
      · obtain rfl : z = (cs.length : Int) + 1 := by omega
        have c7 := (HBX.out.below hbw).cells.2.2.2.2.2.2.2
        have HW := Lib.hid hbw
        clear hbw
        go_wp2_with fail
        clear c7
        refine Bag.region (fun wx => Below W.heap.size W wx) (by kernel_rfl) (by kernel_rfl) HW.out.drew ?_
        iterate 40 (first
            | (apply Bag.walk_yes (by rfl)
               (intro wx hx K hK
                obtain ⟨c0, c1, c2, c3, c4, c5, c6, c7⟩ := (HBX.out.below hx).cells
                obtain ⟨z0, z1, z2, z3, z4, z5, z6, z7⟩ := (HRB.out.below hx).cells
                obtain ⟨k0, k1, k2⟩ := HQ.out _ hx
                first
                  | (go_simp
                     first
                      | (go_at_call 8; (with_reducible refine (FM2.out rA rcap q0 q1 q2 wx (HRB.out.below hx).cars).mono ?_); rintro e w' ⟨rfl, hb⟩; exact hK _ (hx.trans (hb.mono hx.size)))
                      | (go_at_call 9; (with_reducible refine (FR2.out rA rcap q0 q1 q2 wx (HRB.out.below hx).cars).mono ?_); rintro e w' ⟨rfl, hb⟩; exact hK _ (hx.trans (hb.mono hx.size)))
                      | (go_at_call 8; (with_reducible refine (FM.out A cap q0 q1 q2 wx (HBX.out.below hx).cars).mono ?_); rintro e w' ⟨rfl, hb⟩; exact hK _ (hx.trans (hb.mono hx.size)))
                      | (go_at_call 9; (with_reducible refine (FR.out A cap q0 q1 q2 wx (HBX.out.below hx).cars).mono ?_); rintro e w' ⟨rfl, hb⟩; exact hK _ (hx.trans (hb.mono hx.size)))
                      | (go_at_call 6; (with_reducible refine (FSN.out wx).mono ?_); rintro e w' ⟨rfl, hb⟩; exact hK _ (hx.trans (hb.mono hx.size)))
                      | (go_at_K; exact hK _ hx)))
               rfl)
            | (refine Bag.walk_no (by rfl) ?_; simp only [Act.put, List.setIfInBounds_toArray, List.set_cons_succ, List.set_cons_zero]))
        refine Bag.walk_nil (fun w4 hB4 => ?_)
        go_wp2_with fail
        go_ret
        exact ⟨rfl, HB1.out.trans (hB4.mono (by omega))⟩
set_option maxRecDepth 100000 in
theorem lawParkMoves_lifted (os : Os) (started : os.Started) (H : Type) (enc : TypeId × Value → H) :
    ReturnsInHanded {} Try.checked os 3 .any (Rows.parkMovesSpec.pre6 enc Try.prog Try.f3 Rows.parkMovesRow.domain false) (Rows.parkMovesSpec.post enc Try.prog Try.f3 false true false false) := by
  refine returnsInHanded_of_change (C := Try.checked) own started (by kernel_rfl) Try.func3
    (ChangeSpec.witness6 (enc := enc) (C := Try.checked) false ⟨#[], #[.int .u8 0, .agg #[.int .i64 0, .int .i64 0, .int .i64 0, .int .i64 0, .float .f64 0, .float .f64 0, .float .f64 0, .slice none 0 0], .agg #[.int .i64 0, .int .i64 0, .int .i64 0]], []⟩ 8 (by kernel_rfl) (by kernel_rfl) (by kernel_rfl) (by kernel_rfl)) ?_
  intro W base args ds gs before hval0 hW hcnd _
  have hval : ∀ (j : Nat) t v, Try.f3.params[j]? = some t → args[j]? = some v → Value.okWide Try.prog W .any base t v := hval0
  have hW' := hW
  obtain ⟨p, q, hA0, hV, rfl, hfz, hnd⟩ := hW
  have hA : DataW.TrodAll enc Try.prog W 0 (fun _ => true) true Try.f3.params.toList args.toList ds p := hA0
  rw [Try.params3] at hA hval
  obtain ⟨v0, vs0, d0, ds0, p0, q0, hargs, rfl, rfl, h0, r0⟩ := trodAll_cons hA
  obtain ⟨v1, vs1, d1, ds1, p1, q1, rfl, rfl, rfl, h1, r1⟩ := trodAll_cons r0
  obtain ⟨v2, vs2, d2, ds2, p2, q2, rfl, rfl, rfl, h2, r2⟩ := trodAll_cons r1
  obtain ⟨rfl, rfl, rfl⟩ := trodAll_nil r2
  obtain rfl : args = #[v0, v1, v2] := by cases args; simp_all
  obtain ⟨rfl, rfl⟩ := trodVars_none hV
  obtain ⟨x0, rfl, rfl, rfl, g0⟩ := open_int Try.underlying5 (hval 0 5 v0 rfl rfl) h0
  have k1 := h1
  have lt1 : ∀ x ∈ p1, x.block < W.heap.size := by obtain ⟨m, hm⟩ := k1; exact DataW.trod_lt m _ _ _ hm
  obtain ⟨x1, y1, z1, rfl, g1, m1⟩ := open_building (hval 1 25 v1 rfl rfl) h1
  have k2 := h2
  have lt2 : ∀ x ∈ p2, x.block < W.heap.size := by obtain ⟨m, hm⟩ := k2; exact DataW.trod_lt m _ _ _ hm
  obtain ⟨x2, y2, z2, rfl, g2, m2, n2⟩ := open_ai3 (hval 2 26 v2 rfl rfl) h2
  clear hA0 hval0
  refine (lawParkMoves_walk x0 x1 y1 z1 x2 y2 z2 W g0 g1 m1 g2 m2 n2).mono fun e W' ⟨he, bel⟩ => ?_
  subst he
  exact ⟨_, rfl, _, _, _, [], _, [], hW', trodAll_mk1 (shut_bool Try.underlying4 _), (trodAll_cons_mk (shut_int Try.underlying5 g0) (trodAll_cons_mk (Below.trod laidOut (by kernel_rfl) (of_decide_eq_true (by kernel_rfl)) k1 bel lt1) (trodAll_cons_mk (Below.trod laidOut (by kernel_rfl) (of_decide_eq_true (by kernel_rfl)) k2 bel lt2) trodAll_mk0))), rfl, bel.frame _, fun h => by cases h⟩

theorem lawParkMoves_over : Rows.parkMovesRow.holds Try.pinned (OpenSpec.ofChange Rows.parkMovesSpec) :=
  OpenClaim.holds_of_wide 3 Try.f3 rfl rfl rfl rfl rfl rfl rfl ⟨rfl, rfl, rfl, rfl, rfl⟩ rfl rfl rfl rfl rfl (by kernel_rfl) Try.func3 (by kernel_rfl)
    (of_decide_eq_true (by kernel_rfl)) (by unfold Func.isWrapper; first | (rw [if_pos (by decide +kernel)]; kernel_rfl) | (rw [if_neg (by decide +kernel)]; exact ⟨rfl, rfl⟩))
    (fun os started H enc _ => lawParkMoves_lifted os started H enc)

theorem parkMoves_holds : Rows.ParkMovesSaid := lawParkMoves_over
#print axioms parkMoves_holds
end Go.Proofs.Ytgfejleemacabaa
