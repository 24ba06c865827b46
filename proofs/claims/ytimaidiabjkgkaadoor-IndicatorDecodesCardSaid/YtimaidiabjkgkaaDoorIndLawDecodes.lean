/- The law IndicatorDecodes: the observation of any contacts; it is always one. No condition but the tables. -/
import Derived.Test.YtimaidiabjkgkaaDoorIndOpen
import Derived.Test.YtimaidiabjkgkaaDoorLitMore
import Derived.Test.YtimaidiabjkgkaaDoorCards
import Derived.Test.YtimaidiabjkgkaaDoorTie
import Derived.SevenTiedAt
namespace Go.Proofs.YtimaidiabjkgkaaDoor
open Go Go.RowKit Go.ChangeShapes Go.WideShapes Go.ChangeAt

theorem shl_one4 {k : Nat} (h : k < 32) : (2 : Int) ^ k % 4294967296 = ((2 ^ k : Nat) : Int) := shl_one h
set_option linter.unusedVariables false
set_option linter.unusedSimpArgs false
set_option maxRecDepth 100000 in
set_option maxHeartbeats 8000000 in
theorem lawIndicatorDecodes_walk (fl : Int) (c : Ct) (kx : Int) (w : World) (hT : Tabs w) (hfl : (Lit.int .i64 fl).wf = true) (hc : c.ok) (hk : (Lit.int .u8 kx).wf = true) :
    Calls Tryd.prog 4 #[.int .i64 fl, c.agg, .int .u8 kx] w fun e w' => e = .returned (.bool true) ∧ Below w.heap.size w w' := by
  obtain ⟨n, rfl, hn⟩ := u8_nat hk
  clear hk hfl
  obtain ⟨r, hr⟩ : ∃ r : Nat, r = n % 32 := ⟨_, rfl⟩
  have hr32 : r < 32 := by omega
  have hm1 : (n : Int).tmod 32 = (r : Int) := by rw [Int.tmod_eq_emod_of_nonneg (by omega)]; omega
  have hm2 : (n : Int) % 32 = (r : Int) := by omega
  have hP := Ct.bit_lt hr32
  have hs := shl_one4 hr32
  have HT := Lib.hid (fun (w1 : World) (hb : Below w.heap.size w w1) => hT.below hb)
  generalize 2 ^ r = P at *
  have Fc := Lib.hid (fun (z : Int) w hT => decode_any z c w hc hT)
  have Rc := Lib.hid (fun (z : Int) w => refDecode_any z c w hc)
  have Oc := Lib.hid (fun (z : Int) w => isObs_any z (Ind.decode z c) w)
  have Fd := Lib.hid (fun (z : Int) w hT => decode_any z ⟨P, c.up, c.dn, c.opn, c.cls⟩ w hP hT)
  have Rd := Lib.hid (fun (z : Int) w => refDecode_any z ⟨P, c.up, c.dn, c.opn, c.cls⟩ w hP)
  have Od := Lib.hid (fun (z : Int) w => isObs_any z (Ind.decode z ⟨P, c.up, c.dn, c.opn, c.cls⟩) w)
  have HO := Lib.hid (fun (z : Int) (c : Ct) (h : 2 ≤ z ∧ z ≤ 32) => Ind.decode_obs (Ind.okF_iff.2 h) c)
  have HS := Lib.hid (fun w hT => sane_any w hT)
  clear hT hr hc hP
  obtain ⟨a, u, d, o, x⟩ := c
  simp only [Ct.agg] at Fc Rc Fd Rd Oc Od ⊢
  generalize (P : Int) = PI at *
  go_enter Tryd.func4, Tryd.ntmps4
  go_wp2_with fail
  try simp only [hs]
  have K1 := (Lit.one w (.cells #[.int .u32 (a : Int), .bool u, .bool d, .bool o, .bool x] 28)).alloc (.cells #[.int .u32 PI, .bool u, .bool d, .bool o, .bool x] 28)
  have K2 := Lit.two' w (.cells #[.int .u32 (a : Int), .bool u, .bool d, .bool o, .bool x] 28) (.cells #[.int .u32 PI, .bool u, .bool d, .bool o, .bool x] 28)
  have HK := Lib.hid (And.intro K1 K2)
  clear K1 K2
  go_loopw [8] (fun v wr => ∃ z : Int, 2 ≤ z ∧ z ≤ 33 ∧ v = .int .i64 z ∧ Lit w.heap.size w w.heap.size (.cells #[.int .u32 (a : Int), .bool u, .bool d, .bool o, .bool x] 28 (0, 0)) wr ∧ Lit (w.heap.size + 1) (w.alloc (.cells #[.int .u32 (a : Int), .bool u, .bool d, .bool o, .bool x] 28)) (w.heap.size + 1) (.cells #[.int .u32 PI, .bool u, .bool d, .bool o, .bool x] 28 (0, 0)) wr) (fun v _ => (33 - intOf v).toNat)
  case atStart => exact ⟨2, by decide, by decide, rfl, HK.out⟩
  case round =>
    clear HK
    obtain ⟨z, hz2, hz33, rfl, K1, K2⟩ := hrel
    have c0 := K1.cell 0
    have c1 := K1.cell 1
    have c2 := K1.cell 2
    have c3 := K1.cell 3
    have c4 := K1.cell 4
    have d0 := K2.cell 0
    have d1 := K2.cell 1
    have d2 := K2.cell 2
    have d3 := K2.cell 3
    have d4 := K2.cell 4
    simp only [List.getElem?_toArray, List.getElem?_cons_zero, List.getElem?_cons_succ] at c0 c1 c2 c3 c4 d0 d1 d2 d3 d4
    have HK := Lib.hid (And.intro K1 K2)
    clear K1 K2
    by_cases hlt : z ≤ 32
    · have hoc := HO.out z ⟨a, u, d, o, x⟩ ⟨hz2, hlt⟩
      have hod := HO.out z ⟨P, u, d, o, x⟩ ⟨hz2, hlt⟩
      have Fc1 := Lib.hid (fun w hT => Fc.out z w hT)
      have Rc1 := Lib.hid (fun w => Rc.out z w)
      have Oc1 := Lib.hid (fun w => Oc.out z w)
      have Fd1 := Lib.hid (fun w hT => Fd.out z w hT)
      have Rd1 := Lib.hid (fun w => Rd.out z w)
      have Od1 := Lib.hid (fun w => Od.out z w)
      rw [hoc] at Oc1
      rw [hod] at Od1
      clear hoc hod Fc Rc Oc Fd Rd Od HO
      generalize Ind.decode z ⟨a, u, d, o, x⟩ = oc at *
      generalize Ind.decode z ⟨P, u, d, o, x⟩ = od at *
      obtain ⟨e0, e1, e2⟩ := oc
      obtain ⟨g0, g1, g2⟩ := od
      simp only [Ob.agg] at Fc1 Rc1 Oc1 Fd1 Rd1 Od1
      go_wp2_with fail
      clear c0 c1 c2 c3 c4 d0 d1 d2 d3 d4
      have HM := Lib.hid (And.intro (HK.out.1.alloc (.cells #[.int .u32 (a : Int), .bool u, .bool d, .bool o, .bool x, .int .u32 PI, .bool u, .bool d, .bool o, .bool x] 28)) (And.intro (HK.out.2.alloc (.cells #[.int .u32 (a : Int), .bool u, .bool d, .bool o, .bool x, .int .u32 PI, .bool u, .bool d, .bool o, .bool x] 28)) (Lit.one wr (.cells #[.int .u32 (a : Int), .bool u, .bool d, .bool o, .bool x, .int .u32 PI, .bool u, .bool d, .bool o, .bool x] 28))))
      clear HK
      obtain ⟨wo, hwo⟩ : ∃ wo, wo = wr := ⟨wr, rfl⟩
      subst hwo
      go_loopw [26] (fun v wr => ∃ i : Nat, i ≤ 2 ∧ v = .int .i64 i ∧ Lit w.heap.size w w.heap.size (.cells #[.int .u32 (a : Int), .bool u, .bool d, .bool o, .bool x] 28 (0, 0)) wr ∧ Lit (w.heap.size + 1) (w.alloc (.cells #[.int .u32 (a : Int), .bool u, .bool d, .bool o, .bool x] 28)) (w.heap.size + 1) (.cells #[.int .u32 PI, .bool u, .bool d, .bool o, .bool x] 28 (0, 0)) wr ∧ Lit wo.heap.size wo wo.heap.size (.cells #[.int .u32 (a : Int), .bool u, .bool d, .bool o, .bool x, .int .u32 PI, .bool u, .bool d, .bool o, .bool x] 28 (0, 0)) wr) (fun v _ => 2 - (intOf v).toNat)
      case atStart => exact ⟨0, Nat.zero_le _, rfl, HM.out⟩
      case round =>
        clear HM
        obtain ⟨i, hi, rfl, K1, K2, K3⟩ := hrel
        rcases (show i = 0 ∨ i = 1 ∨ i = 2 from by omega) with rfl | rfl | rfl
        · have s0 := K3.cell 0
          have s1 := K3.cell 1
          have s2 := K3.cell 2
          have s3 := K3.cell 3
          have s4 := K3.cell 4
          simp only [List.getElem?_toArray, List.getElem?_cons_zero, List.getElem?_cons_succ] at s0 s1 s2 s3 s4
          have HM := Lib.hid (And.intro K1 (And.intro K2 K3))
          clear K1 K2 K3
          go_wp2_with fail
          refine (Fc1.out _ (HT.out _ ((HM.out.1.alloc _).below))).mono ?_
          rintro e w1 ⟨rfl, h1⟩
          clear s0 s1 s2 s3 s4
          have HN := Lib.hid (And.intro (((HM.out.1.alloc _).next h1).alloc (.cells #[.int .i64 e0, .int .i64 e1, .int .i64 e2] 31)) (And.intro (((HM.out.2.1.alloc _).next h1).alloc (.cells #[.int .i64 e0, .int .i64 e1, .int .i64 e2] 31)) (And.intro (((HM.out.2.2.alloc _).next h1).alloc (.cells #[.int .i64 e0, .int .i64 e1, .int .i64 e2] 31)) (And.intro (((Lit.one wr _).next h1).alloc (.cells #[.int .i64 e0, .int .i64 e1, .int .i64 e2] 31)) (Lit.one w1 (.cells #[.int .i64 e0, .int .i64 e1, .int .i64 e2] 31))))))
          clear HM h1
          go_wp2_with fail
          refine Bag.region (fun wx => Lit w.heap.size w w.heap.size (.cells #[.int .u32 (a : Int), .bool u, .bool d, .bool o, .bool x] 28 (0, 0)) wx ∧ Lit (w.heap.size + 1) (w.alloc (.cells #[.int .u32 (a : Int), .bool u, .bool d, .bool o, .bool x] 28)) (w.heap.size + 1) (.cells #[.int .u32 PI, .bool u, .bool d, .bool o, .bool x] 28 (0, 0)) wx ∧ Lit wo.heap.size wo wo.heap.size (.cells #[.int .u32 (a : Int), .bool u, .bool d, .bool o, .bool x, .int .u32 PI, .bool u, .bool d, .bool o, .bool x] 28 (0, 0)) wx ∧ Lit wr.heap.size wr wr.heap.size (.cells #[.int .u32 (a : Int), .bool u, .bool d, .bool o, .bool x] 28 (0, 0)) wx ∧ Lit w1.heap.size w1 w1.heap.size (.cells #[.int .i64 e0, .int .i64 e1, .int .i64 e2] 31 (0, 0)) wx) (by kernel_rfl) (by kernel_rfl) ⟨HN.out.1.next (Below.refl _ _).drew, HN.out.2.1.next (Below.refl _ _).drew, HN.out.2.2.1.next (Below.refl _ _).drew, HN.out.2.2.2.1.next (Below.refl _ _).drew, HN.out.2.2.2.2.next (Below.refl _ _).drew⟩ ?_
          iterate 11 (first
              | (apply Bag.walk_yes (by rfl)
                 (intro wx hx K hK
                  have s0 := hx.2.2.2.1.cell 0
                  have s1 := hx.2.2.2.1.cell 1
                  have s2 := hx.2.2.2.1.cell 2
                  have s3 := hx.2.2.2.1.cell 3
                  have s4 := hx.2.2.2.1.cell 4
                  have q0 := hx.2.2.2.2.cell 0
                  have q1 := hx.2.2.2.2.cell 1
                  have q2 := hx.2.2.2.2.cell 2
                  simp only [List.getElem?_toArray, List.getElem?_cons_zero, List.getElem?_cons_succ] at s0 s1 s2 s3 s4 q0 q1 q2
                  first
                    | (go_simp
                       first
                        | (go_at_call 12; refine (Rc1.out _).mono ?_; rintro e x1 ⟨rfl, hb⟩; exact hK _ ⟨hx.1.next hb, hx.2.1.next hb, hx.2.2.1.next hb, hx.2.2.2.1.next hb, hx.2.2.2.2.next hb⟩)
                        | (go_at_call 13; refine (Oc1.out _).mono ?_; rintro e x1 ⟨rfl, hb⟩; exact hK _ ⟨hx.1.next hb, hx.2.1.next hb, hx.2.2.1.next hb, hx.2.2.2.1.next hb, hx.2.2.2.2.next hb⟩)
                        | (go_at_K; exact hK _ hx)))
                 rfl)
              | (refine Bag.walk_no (by rfl) ?_; simp only [Act.put, List.setIfInBounds_toArray, List.set_cons_succ, List.set_cons_zero]))
          refine Bag.walk_nil (fun w2 hB => ?_)
          have HB := Lib.hid hB
          clear hB HN
          go_wp2_with fail
          go_roundw
          case rel => exact ⟨1, by omega, by go_num, HB.out.1, HB.out.2.1, HB.out.2.2.1⟩
          case measure => simp [intOf]
        · have s0 := K3.cell 5
          have s1 := K3.cell 6
          have s2 := K3.cell 7
          have s3 := K3.cell 8
          have s4 := K3.cell 9
          simp only [List.getElem?_toArray, List.getElem?_cons_zero, List.getElem?_cons_succ] at s0 s1 s2 s3 s4
          have HM := Lib.hid (And.intro K1 (And.intro K2 K3))
          clear K1 K2 K3
          go_wp2_with fail
          refine (Fd1.out _ (HT.out _ ((HM.out.1.alloc _).below))).mono ?_
          rintro e w1 ⟨rfl, h1⟩
          clear s0 s1 s2 s3 s4
          have HN := Lib.hid (And.intro (((HM.out.1.alloc _).next h1).alloc (.cells #[.int .i64 g0, .int .i64 g1, .int .i64 g2] 31)) (And.intro (((HM.out.2.1.alloc _).next h1).alloc (.cells #[.int .i64 g0, .int .i64 g1, .int .i64 g2] 31)) (And.intro (((HM.out.2.2.alloc _).next h1).alloc (.cells #[.int .i64 g0, .int .i64 g1, .int .i64 g2] 31)) (And.intro (((Lit.one wr _).next h1).alloc (.cells #[.int .i64 g0, .int .i64 g1, .int .i64 g2] 31)) (Lit.one w1 (.cells #[.int .i64 g0, .int .i64 g1, .int .i64 g2] 31))))))
          clear HM h1
          go_wp2_with fail
          refine Bag.region (fun wx => Lit w.heap.size w w.heap.size (.cells #[.int .u32 (a : Int), .bool u, .bool d, .bool o, .bool x] 28 (0, 0)) wx ∧ Lit (w.heap.size + 1) (w.alloc (.cells #[.int .u32 (a : Int), .bool u, .bool d, .bool o, .bool x] 28)) (w.heap.size + 1) (.cells #[.int .u32 PI, .bool u, .bool d, .bool o, .bool x] 28 (0, 0)) wx ∧ Lit wo.heap.size wo wo.heap.size (.cells #[.int .u32 (a : Int), .bool u, .bool d, .bool o, .bool x, .int .u32 PI, .bool u, .bool d, .bool o, .bool x] 28 (0, 0)) wx ∧ Lit wr.heap.size wr wr.heap.size (.cells #[.int .u32 PI, .bool u, .bool d, .bool o, .bool x] 28 (0, 0)) wx ∧ Lit w1.heap.size w1 w1.heap.size (.cells #[.int .i64 g0, .int .i64 g1, .int .i64 g2] 31 (0, 0)) wx) (by kernel_rfl) (by kernel_rfl) ⟨HN.out.1.next (Below.refl _ _).drew, HN.out.2.1.next (Below.refl _ _).drew, HN.out.2.2.1.next (Below.refl _ _).drew, HN.out.2.2.2.1.next (Below.refl _ _).drew, HN.out.2.2.2.2.next (Below.refl _ _).drew⟩ ?_
          iterate 11 (first
              | (apply Bag.walk_yes (by rfl)
                 (intro wx hx K hK
                  have s0 := hx.2.2.2.1.cell 0
                  have s1 := hx.2.2.2.1.cell 1
                  have s2 := hx.2.2.2.1.cell 2
                  have s3 := hx.2.2.2.1.cell 3
                  have s4 := hx.2.2.2.1.cell 4
                  have q0 := hx.2.2.2.2.cell 0
                  have q1 := hx.2.2.2.2.cell 1
                  have q2 := hx.2.2.2.2.cell 2
                  simp only [List.getElem?_toArray, List.getElem?_cons_zero, List.getElem?_cons_succ] at s0 s1 s2 s3 s4 q0 q1 q2
                  first
                    | (go_simp
                       first
                        | (go_at_call 12; refine (Rd1.out _).mono ?_; rintro e x1 ⟨rfl, hb⟩; exact hK _ ⟨hx.1.next hb, hx.2.1.next hb, hx.2.2.1.next hb, hx.2.2.2.1.next hb, hx.2.2.2.2.next hb⟩)
                        | (go_at_call 13; refine (Od1.out _).mono ?_; rintro e x1 ⟨rfl, hb⟩; exact hK _ ⟨hx.1.next hb, hx.2.1.next hb, hx.2.2.1.next hb, hx.2.2.2.1.next hb, hx.2.2.2.2.next hb⟩)
                        | (go_at_K; exact hK _ hx)))
                 rfl)
              | (refine Bag.walk_no (by rfl) ?_; simp only [Act.put, List.setIfInBounds_toArray, List.set_cons_succ, List.set_cons_zero]))
          refine Bag.walk_nil (fun w2 hB => ?_)
          have HB := Lib.hid hB
          clear hB HN
          go_wp2_with fail
          go_roundw
          case rel => exact ⟨2, by omega, by go_num, HB.out.1, HB.out.2.1, HB.out.2.2.1⟩
          case measure => simp [intOf]
        · have HM := Lib.hid (And.intro K1 K2)
          clear K1 K2 K3
          go_wp2_with fail
          go_roundw
          case rel => exact ⟨z + 1, by omega, by omega, by go_num, HM.out⟩
          case measure => simp only [intOf]; omega
    · have Fc1 := Lib.hid (fun w hT => Fc.out fl w hT)
      have Rc1 := Lib.hid (fun w => Rc.out fl w)
      clear c0 c1 c2 c3 c4 d0 d1 d2 d3 d4 Fc Rc Oc Fd Rd Od HO
      generalize Ind.decode fl ⟨a, u, d, o, x⟩ = oc at *
      obtain ⟨e0, e1, e2⟩ := oc
      simp only [Ob.agg] at Fc1 Rc1
      go_wp2_with fail
      refine Bag.region (fun wx => Lit w.heap.size w w.heap.size (.cells #[.int .u32 (a : Int), .bool u, .bool d, .bool o, .bool x] 28 (0, 0)) wx) (by kernel_rfl) (by kernel_rfl) (by exact HK.out.1.next (Below.refl _ _).drew) ?_
      iterate 11 (first
          | (apply Bag.walk_yes (by rfl)
             (intro wx hx K hK
              have s0 := hx.cell 0
              have s1 := hx.cell 1
              have s2 := hx.cell 2
              have s3 := hx.cell 3
              have s4 := hx.cell 4
              simp only [List.getElem?_toArray, List.getElem?_cons_zero, List.getElem?_cons_succ] at s0 s1 s2 s3 s4
              first
                | (go_simp
                   first
                    | (go_at_call 11; refine (Fc1.out _ (HT.out _ hx.below)).mono ?_; rintro e x1 ⟨rfl, hb⟩; exact hK _ (hx.next hb))
                    | (go_at_call 12; refine (Rc1.out _).mono ?_; rintro e x1 ⟨rfl, hb⟩; exact hK _ (hx.next hb))
                    | (go_at_call 10; refine (HS.out _ (HT.out _ hx.below)).mono ?_; rintro e x1 ⟨rfl, hb⟩; exact hK _ (hx.next hb))
                    | (go_at_K; exact hK _ hx)))
             rfl)
          | (refine Bag.walk_no (by rfl) ?_; simp only [Act.put, List.setIfInBounds_toArray, List.set_cons_succ, List.set_cons_zero]))
      refine Bag.walk_nil (fun w2 hB => ?_)
      have HB := Lib.hid hB.below
      clear hB HK
      go_wp2_with fail
      go_ret
      exact ⟨rfl, HB.out⟩

set_option maxRecDepth 100000 in
theorem lawIndicatorDecodes_lifted (os : Os) (started : os.Started) (H : Type) (enc : TypeId × Value → H) :
    ReturnsInHanded {} Tryd.checked os 4 .any (fun w args => (Rows.indicatorDecodesSpec.pre enc Tryd.prog Tryd.f4 [] false w args ∧ laidMetH Tryd.prog laidAll w) ∧ sizedMet enc Tryd.prog Tryd.f4 (OpenSpec.ofChange Rows.indicatorDecodesSpec) false w args) (Rows.indicatorDecodesSpec.post enc Tryd.prog Tryd.f4 false true false false) := by
  refine returnsInHanded_of_change_and (C := Tryd.checked) (X := fun w _ => laidMetH Tryd.prog laidAll w) (fun _ _ _ hh h => h.of_heap hh) own started (by kernel_rfl) Tryd.func4
    (ChangeSpec.witness_shaped (enc := enc) (C := Tryd.checked) (os := os) (X := fun w _ => laidMetH Tryd.prog laidAll w) false (World.doorLaid Tryd.prog 24 os) #[.int .i64 0, .agg #[.int .u32 0, .bool false, .bool false, .bool false, .bool false], .int .u8 0] 8 rfl (World.shaped_of_RefB (by kernel_rfl) (by kernel_rfl)) (by kernel_rfl) (by kernel_rfl) (by kernel_rfl) (door_met os _)) ?_
  intro W base args ds gs before hval0 hW _ _ hL _
  have hval : ∀ (j : Nat) t v, Tryd.f4.params[j]? = some t → args[j]? = some v → Value.okWide Tryd.prog W .any base t v := hval0
  have hW' := hW
  obtain ⟨p, q, hA0, hV, rfl, hfz, hnd⟩ := hW
  have hA : DataW.TrodAll enc Tryd.prog W 0 (fun _ => true) true Tryd.f4.params.toList args.toList ds p := hA0
  rw [Tryd.params4] at hA hval
  obtain ⟨v0, vs0, d0, ds0, p0, q0, hargs, rfl, rfl, h0, r0⟩ := trodAll_cons hA
  obtain ⟨v1, vs1, d1, ds1, p1, q1, rfl, rfl, rfl, h1, r1⟩ := trodAll_cons r0
  obtain ⟨v2, vs2, d2, ds2, p2, q2, rfl, rfl, rfl, h2, r2⟩ := trodAll_cons r1
  obtain ⟨rfl, rfl, rfl⟩ := trodAll_nil r2
  obtain rfl : args = #[v0, v1, v2] := by cases args; simp_all
  obtain ⟨rfl, rfl⟩ := trodVars_none hV
  obtain ⟨x0, rfl, rfl, rfl, g0⟩ := open_int Tryd.underlying3 (hval 0 3 v0 rfl rfl) h0
  have k1 := h1
  have lt1 : ∀ x ∈ p1, x.block < W.heap.size := by obtain ⟨m, hm⟩ := k1; exact DataW.trod_lt m _ _ _ hm
  obtain ⟨x1, rfl, g1⟩ := open_ct (hval 1 28 v1 rfl rfl) h1
  obtain ⟨x2, rfl, rfl, rfl, g2⟩ := open_int Tryd.underlying5 (hval 2 5 v2 rfl rfl) h2
  clear hA0 hval0
  refine (lawIndicatorDecodes_walk x0 x1 x2 W (tabs_of_laid hL) g0 g1 g2).mono fun e W' ⟨he, bel⟩ => ?_
  subst he
  exact ⟨_, rfl, _, _, _, [], _, [], hW', trodAll_mk1 (shut_bool Tryd.underlying4 _), (trodAll_cons_mk (shut_int Tryd.underlying3 g0) (trodAll_cons_mk (Below.trod laidOut (by kernel_rfl) (of_decide_eq_true (by kernel_rfl)) k1 bel lt1) (trodAll_cons_mk (shut_int Tryd.underlying5 g2) trodAll_mk0))), rfl, bel.frame _, fun h => by cases h⟩

theorem lawIndicatorDecodes_over : Rows.indicatorDecodesRow.holds Tryd.pinned (OpenSpec.ofChange Rows.indicatorDecodesSpec) :=
  OpenClaim.holds_of_wide 4 Tryd.f4 rfl rfl rfl rfl rfl rfl rfl ⟨rfl, rfl, rfl, rfl, rfl⟩ rfl rfl rfl rfl rfl (by kernel_rfl) Tryd.func4 (by kernel_rfl)
    (of_decide_eq_true (by kernel_rfl)) (by unfold Func.isWrapper; first | (rw [if_pos (by decide +kernel)]; kernel_rfl) | (rw [if_neg (by decide +kernel)]; exact ⟨rfl, rfl⟩))
    (fun os started H enc _ => lawIndicatorDecodes_lifted os started H enc)

theorem indicatorDecodes_card : Rows.IndicatorDecodesCardSaid :=
  Claim7.holds_tied_plain_at .later [] _ _ _ _ lawIndicatorDecodes_over (fun _ h => by cases h) (by kernel_rfl) (fun _ h => by cases h) indicatorDecodes_row_tie rfl ⟨rfl, rfl⟩ (by kernel_rfl) rfl
    (fun f fn hf hfn => by
      obtain rfl : f = 4 := Option.some.inj ((show Tryd.prog.funcNamed "overlay/overlaylaw05.IndicatorDecodes" = some 4 by kernel_rfl).symm.trans hf) |>.symm
      obtain rfl : fn = Tryd.f4 := (Option.some.inj (Tryd.func4.symm.trans hfn)).symm
      exact ⟨by kernel_rfl, fun j t ht => by
        rw [Tryd.params4] at ht
        have hm : t ∈ [3, 28, 5] := by simpa using Array.mem_of_getElem? ht
        have hall : ([3, 28, 5].all fun u => !Tryd.prog.wantsStandIn u) = true := by kernel_rfl
        exact (show Tryd.prog.wantsStandIn t = false by simpa using List.all_eq_true.1 hall t hm)⟩)
    (by kernel_rfl)
#print axioms indicatorDecodes_card

end Go.Proofs.YtimaidiabjkgkaaDoor
