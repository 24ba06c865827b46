/- The law ContactParts: which contact has which number. No condition. -/
import Derived.Test.YtcobcefefifmcaaCtOpen
namespace Go.Proofs.Ytcobcefefifmcaa
open Go.RowKit Go.ChangeShapes Go.WideShapes Go.ChangeAt

set_option maxHeartbeats 4000000 in
theorem lawContactParts_walk (c : Ct) (i : Int) (on : Bool) (w : World) (hc : c.ok) (_hi : (Lit.int .i64 i).wf = true) :
    Calls Try.prog 3 #[c.agg, .int .i64 i, .bool on] w fun e w' => e = .returned (.bool true) ∧ Below w.heap.size w w' := by
  have FS := Lib.hid (fun wx => sane_any wx)
  have HT := Lib.hid (fun j wx => (⟨get_any c j wx hc, refGet_any c j wx hc, set_any c j on wx hc, refSet_any c j on wx hc⟩ : _ ∧ _ ∧ _ ∧ _))
  have HS := Lib.hid (fun (j : Nat) (hj : j < 36) wx => get_any (c.set j on) (j : Int) wx (Ct.ok_set hc j on))
  have HSS := Lib.hid (fun (j : Nat) (hj : j < 36) => Ct.get_set_same c hj on)
  have hbx := fun (wx : World) (h : Below (w.heap.size + 1) (w.alloc (.cells #[.int .u32 c.fl, .bool c.up, .bool c.dn, .bool c.opn, .bool c.cls] 24)) wx) => boxCt h
  have HBX := Lib.hid hbx
  clear hbx
  obtain ⟨f, u, d, o, x⟩ := c
  simp only [Ct.agg] at HT HS HBX ⊢
  have HOK := Lib.hid hc
  clear hc
  go_enter Try.func3, Try.ntmps3
  go_wp2_with fail
  go_loopw [7] (fun v wr => ∃ k : Nat, k ≤ 39 ∧ v = .int .i64 ((k : Int) - 1) ∧ Below (w.heap.size + 1) (w.alloc (.cells #[.int .u32 f, .bool u, .bool d, .bool o, .bool x] 24)) wr) (fun v _ => 40 - (intOf v + 1).toNat)
  case atStart => exact ⟨0, Nat.zero_le _, rfl, Below.refl _ _⟩
  case round =>
    obtain ⟨k, hk, rfl, hbw⟩ := hrel
    have HB := Lib.hid hbw
    clear hbw
    by_cases hlt : k < 39
    · have F := HT.out ((k : Int) - 1)
      have F9 := Lib.hid (fun wx => (F wx).1)
      have F10 := Lib.hid (fun wx => (F wx).2.1)
      have F11 := Lib.hid (fun wx => (F wx).2.2.1)
      have F12 := Lib.hid (fun wx => (F wx).2.2.2)
      generalize hbb : Ct.getI ⟨f, u, d, o, x⟩ ((k : Int) - 1) = bb at *
      generalize hdd : Ct.setI ⟨f, u, d, o, x⟩ ((k : Int) - 1) on = dd at *
      have HDD := Lib.hid hdd
      clear F hbb hdd
      obtain ⟨f', u', d', o', x'⟩ := dd
      simp only at F11 F12
      go_wp2_with fail
      refine Bag.region (fun wx => Below (w.heap.size + 1) (w.alloc (.cells #[.int .u32 f, .bool u, .bool d, .bool o, .bool x] 24)) wx) (by kernel_rfl) (by kernel_rfl) HB.out.drew ?_
      iterate 18 (first
          | (apply Bag.walk_yes (by rfl)
             (intro wx hx K hK
              obtain ⟨c0, c1, c2, c3, c4⟩ := HBX.out _ hx
              first
                | (go_simp
                   first
                    | (go_at_call 9; (with_reducible refine (F9.out _).mono ?_); rintro e x1 ⟨rfl, hb⟩; exact hK _ (hx.trans (hb.mono (box_sz hx))))
                    | (go_at_call 10; (with_reducible refine (F10.out _).mono ?_); rintro e x1 ⟨rfl, hb⟩; exact hK _ (hx.trans (hb.mono (box_sz hx))))
                    | (go_at_call 11; (with_reducible refine (F11.out _).mono ?_); rintro e x1 ⟨rfl, hb⟩; exact hK _ (hx.trans (hb.mono (box_sz hx))))
                    | (go_at_call 12; (with_reducible refine (F12.out _).mono ?_); rintro e x1 ⟨rfl, hb⟩; exact hK _ (hx.trans (hb.mono (box_sz hx))))
                    | (go_at_K; exact hK _ hx)))
             rfl)
          | (refine Bag.walk_no (by rfl) ?_; simp only [Act.put, List.setIfInBounds_toArray, List.set_cons_succ, List.set_cons_zero]))
      refine Bag.walk_nil (fun w1 hB1 => ?_)
      have HB1 := Lib.hid hB1
      by_cases hin : 1 ≤ k ∧ k ≤ 36
      · obtain ⟨j, rfl⟩ : ∃ j, k = j + 1 := ⟨k - 1, by omega⟩
        have hj : j < 36 := by omega
        have G1 := HS.out j hj
        have G0 := fun wx => (HT.out (j : Int) wx).2.2.1
        simp only [Ct.setI_nat] at G0
        rw [Ct.getI_nat, HSS.out j hj] at G1
        generalize Ct.set ⟨f, u, d, o, x⟩ j on = dd at *
        have F13 := Lib.hid G1
        have F14 := Lib.hid G0
        obtain ⟨c0, c1, c2, c3, c4⟩ := HBX.out _ hB1
        clear G0 G1 hB1 hin hlt F9 F10 F11 F12 HDD
        go_wp2_with fail
        refine (F14.out _).mono ?_
        rintro e x1 ⟨rfl, hb1⟩
        have HX1 := Lib.hid (HB1.out.trans (hb1.mono (box_sz HB1.out)))
        clear hb1 c0 c1 c2 c3 c4
        go_wp2_with fail
        refine (F13.out _).mono ?_
        rintro e x2 ⟨rfl, hb2⟩
        have HX2 := Lib.hid (HX1.out.trans (hb2.mono (box_sz HX1.out)))
        clear hb2
        go_wp2_with fail
        go_roundw
        case rel => exact ⟨j + 2, by omega, congrArg (Value.int .i64) (by omega), HX2.out⟩
        case measure => simp [intOf]; omega
      · have h3 : k = 0 ∨ k = 37 ∨ k = 38 := by omega
        clear hin hlt F9 F10 F11 F12 HDD hB1
        rcases h3 with rfl | rfl | rfl
        all_goals
          go_wp2_with fail
          go_roundw
          case rel => first | exact ⟨1, by decide, rfl, HB1.out⟩ | exact ⟨38, by decide, rfl, HB1.out⟩ | exact ⟨39, by decide, rfl, HB1.out⟩
          case measure => simp [intOf]
    · obtain rfl : k = 39 := by omega
      have F := HT.out i
      have F9 := Lib.hid (fun wx => (F wx).1)
      have F10 := Lib.hid (fun wx => (F wx).2.1)
      have F11 := Lib.hid (fun wx => (F wx).2.2.1)
      have F12 := Lib.hid (fun wx => (F wx).2.2.2)
      generalize Ct.getI ⟨f, u, d, o, x⟩ i = bb at *
      generalize Ct.setI ⟨f, u, d, o, x⟩ i on = dd at *
      clear F
      obtain ⟨f', u', d', o', x'⟩ := dd
      simp only at F11 F12
      go_wp2_with fail
      refine Bag.region (fun wx => Below (w.heap.size + 1) (w.alloc (.cells #[.int .u32 f, .bool u, .bool d, .bool o, .bool x] 24)) wx) (by kernel_rfl) (by kernel_rfl) HB.out.drew ?_
      iterate 22 (first
          | (apply Bag.walk_yes (by rfl)
             (intro wx hx K hK
              obtain ⟨c0, c1, c2, c3, c4⟩ := HBX.out _ hx
              first
                | (go_simp
                   first
                    | (go_at_call 9; (with_reducible refine (F9.out _).mono ?_); rintro e x1 ⟨rfl, hb⟩; exact hK _ (hx.trans (hb.mono (box_sz hx))))
                    | (go_at_call 10; (with_reducible refine (F10.out _).mono ?_); rintro e x1 ⟨rfl, hb⟩; exact hK _ (hx.trans (hb.mono (box_sz hx))))
                    | (go_at_call 11; (with_reducible refine (F11.out _).mono ?_); rintro e x1 ⟨rfl, hb⟩; exact hK _ (hx.trans (hb.mono (box_sz hx))))
                    | (go_at_call 12; (with_reducible refine (F12.out _).mono ?_); rintro e x1 ⟨rfl, hb⟩; exact hK _ (hx.trans (hb.mono (box_sz hx))))
                    | (go_at_call 13; (with_reducible refine (FS.out _).mono ?_); rintro e x1 ⟨rfl, hb⟩; exact hK _ (hx.trans (hb.mono (box_sz hx))))
                    | (go_at_K; exact hK _ hx)))
             rfl)
          | (refine Bag.walk_no (by rfl) ?_; simp only [Act.put, List.setIfInBounds_toArray, List.set_cons_succ, List.set_cons_zero]))
      refine Bag.walk_nil (fun w1 hB1 => ?_)
      have HB1 := Lib.hid hB1
      clear hB1
      go_wp2_with fail
      go_ret
      exact ⟨rfl, below_of_new HB1.out⟩

set_option maxRecDepth 100000 in
theorem lawContactParts_lifted (os : Os) (started : os.Started) (H : Type) (enc : TypeId × Value → H) :
    ReturnsInHanded {} Try.checked os 3 .any (Rows.contactPartsSpec.pre6 enc Try.prog Try.f3 Rows.contactPartsRow.domain false) (Rows.contactPartsSpec.post enc Try.prog Try.f3 false true false false) := by
  refine returnsInHanded_of_change (C := Try.checked) own started (by kernel_rfl) Try.func3
    (ChangeSpec.witness6 (enc := enc) (C := Try.checked) false ⟨#[], #[.agg #[.int .u32 0, .bool false, .bool false, .bool false, .bool false], .int .i64 0, .bool false], []⟩ 8 (by kernel_rfl) (by kernel_rfl) (by kernel_rfl) (by kernel_rfl)) ?_
  intro W base args ds gs before hval0 hW hcnd _
  have hval : ∀ (j : Nat) t v, Try.f3.params[j]? = some t → args[j]? = some v → Value.okWide Try.prog W .any base t v := hval0
  have hW' := hW
  obtain ⟨p, q, hA0, hV, rfl, hfz, hnd⟩ := hW
  have hA : DataW.TrodAll enc Try.prog W 0 (fun _ => true) true Try.f3.params.toList args.toList ds p := hA0
  rw [Try.params3] at hA hval
  obtain ⟨v0, vs0, d0, ds0, p0, q0, hargs, rfl, rfl, h0, r0⟩ := trodAll_cons hA
  obtain ⟨v1, vs1, d1, ds1, p1, q1, rfl, rfl, rfl, h1, r1⟩ := trodAll_cons r0
  obtain ⟨v2, vs2, d2, ds2, p2, q2, rfl, rfl, rfl, h2, r2⟩ := trodAll_cons r1
  obtain ⟨rfl, rfl, rfl⟩ := trodAll_nil r2
  obtain rfl : args = #[v0, v1, v2] := by cases args; simp_all
  obtain ⟨rfl, rfl⟩ := trodVars_none hV
  have k0 := h0
  have lt0 : ∀ x ∈ p0, x.block < W.heap.size := by obtain ⟨m, hm⟩ := k0; exact DataW.trod_lt m _ _ _ hm
  obtain ⟨x0, rfl, g0⟩ := open_ct (hval 0 24 v0 rfl rfl) h0
  obtain ⟨x1, rfl, rfl, rfl, g1⟩ := open_int Try.underlying3 (hval 1 3 v1 rfl rfl) h1
  obtain ⟨x2, rfl, rfl, rfl⟩ := open_bool Try.underlying4 (hval 2 4 v2 rfl rfl) h2
  clear hA0 hval0
  refine (lawContactParts_walk x0 x1 x2 W g0 g1).mono fun e W' ⟨he, bel⟩ => ?_
  subst he
  exact ⟨_, rfl, _, _, _, [], _, [], hW', trodAll_mk1 (shut_bool Try.underlying4 _), (trodAll_cons_mk (Below.trod laidOut (by kernel_rfl) (of_decide_eq_true (by kernel_rfl)) k0 bel lt0) (trodAll_cons_mk (shut_int Try.underlying3 g1) (trodAll_cons_mk (shut_bool Try.underlying4 x2) trodAll_mk0))), rfl, bel.frame _, fun h => by cases h⟩

theorem lawContactParts_over : Rows.contactPartsRow.holds Try.pinned (OpenSpec.ofChange Rows.contactPartsSpec) :=
  OpenClaim.holds_of_wide 3 Try.f3 rfl rfl rfl rfl rfl rfl rfl ⟨rfl, rfl, rfl, rfl, rfl⟩ rfl rfl rfl rfl rfl (by kernel_rfl) Try.func3 (by kernel_rfl)
    (of_decide_eq_true (by kernel_rfl)) (by unfold Func.isWrapper; first | (rw [if_pos (by decide +kernel)]; kernel_rfl) | (rw [if_neg (by decide +kernel)]; exact ⟨rfl, rfl⟩))
    (fun os started H enc _ => lawContactParts_lifted os started H enc)

theorem contactParts_holds : Rows.ContactPartsSaid := lawContactParts_over
#print axioms contactParts_holds
end Go.Proofs.Ytcobcefefifmcaa
