/- The law CallsHas: which calls a set has, and the set of one call, for any floor and direction. No condition. -/
import Derived.Test.YtclkfclbnapamaaCsLawSets
namespace Go.Proofs.Ytclkfclbnapamaa
open Go.RowKit Go.ChangeShapes Go.WideShapes Go.ChangeAt

set_option maxRecDepth 100000 in
set_option maxHeartbeats 4000000 in
theorem lawCallsHas_walk (a : Cs) (f d : Int) (w : World) (ha : a.ok) (_ : (Lit.int .i64 f).wf = true) (_ : (Lit.int .i64 d).wf = true) :
    Calls Try.prog 4 #[a.agg, .int .i64 f, .int .i64 d] w fun e w' => e = .returned (.bool true) ∧ Below w.heap.size w w' := by
  have FH := Lib.hid (fun f d w => has_any a f d w ha)
  have GH := Lib.hid (fun f d w => refHas_any a f d w ha)
  have FO := Lib.hid (fun f d w => one_any f d w)
  have GO := Lib.hid (fun f d w => refOne_any f d w)
  have FS := Lib.hid (fun w => sane_any w)
  have HBX := Lib.hid (fun (wx : World) (h : Below (w.heap.size + 1) (w.alloc (.cells #[.int .u32 a.up, .int .u32 a.dn] 24)) wx) => boxCs h)
  have HNQ := Lib.hid (fun (x : Cs) wx => neqSame x wx)
  have HEQ := Lib.hid (fun (x : Cs) wx => eqlSame x wx)
  generalize Cs.has a = AB at *
  generalize Cs.one = ON at *
  obtain ⟨a1, a2⟩ := a
  simp only [Cs.agg] at *
  clear ha
  go_enter Try.func4, Try.ntmps4
  go_wp2_with fail
  have hW0 : Below (w.heap.size + 1) (w.alloc (.cells #[.int .u32 a1, .int .u32 a2] 24)) (w.alloc (.cells #[.int .u32 a1, .int .u32 a2] 24)) := Below.refl _ _
  have HW0 := Lib.hid hW0
  clear hW0
  go_loopw [7, 8] (fun v _ wr => ∃ k : Nat, k ≤ 35 ∧ v = .int .i64 ((k : Int) - 1) ∧ Below (w.heap.size + 1) (w.alloc (.cells #[.int .u32 a1, .int .u32 a2] 24)) wr) (fun v _ _ => 35 - (intOf v + 1).toNat)
  case atStart => exact ⟨0, by omega, rfl, HW0.out⟩
  case round =>
    obtain ⟨k, hk, rfl, hB⟩ := hrel
    have HBr := Lib.hid hB
    clear hB
    by_cases hlt : k < 35
    · have hd : decide ((k : Int) - 1 < 34) = true := decide_eq_true (by omega)
      have hw : wrap64 ((k : Int) - 1 + 1) = ((k + 1 : Nat) : Int) - 1 := by unfold wrap64; omega
      have HW := Lib.hid hw
      clear hw
      generalize hz : (k : Int) - 1 = z at *
      have HZ := Lib.hid hz
      clear hz
      go_wp2_with fail
      go_loopw [8] (fun v wr => ∃ m : Nat, m ≤ 6 ∧ v = .int .i64 ((m : Int) - 1) ∧ Below (w.heap.size + 1) (w.alloc (.cells #[.int .u32 a1, .int .u32 a2] 24)) wr) (fun v _ => 6 - (intOf v + 1).toNat)
      case atStart => exact ⟨0, by omega, rfl, HBr.out⟩
      case round =>
        obtain ⟨m, hm, rfl, hB⟩ := hrel
        have HBm := Lib.hid hB
        clear hB
        by_cases hmt : m < 6
        · have hd2 : decide ((m : Int) - 1 < 5) = true := decide_eq_true (by omega)
          have hw : wrap64 ((m : Int) - 1 + 1) = ((m + 1 : Nat) : Int) - 1 := by unfold wrap64; omega
          have HV := Lib.hid hw
          clear hw
          generalize hy : (m : Int) - 1 = y at *
          have HY := Lib.hid hy
          clear hy
          have FH1 := Lib.hid (fun w => FH.out z y w)
          have GH1 := Lib.hid (fun w => GH.out z y w)
          have FO1 := Lib.hid (fun w => FO.out z y w)
          have GO1 := Lib.hid (fun w => GO.out z y w)
          cases hh : AB z y
          all_goals
            rw [hh] at FH1 GH1
            clear hh
          all_goals
            have n1 := HNQ.out (ON z y)
            generalize ON z y = O1 at *
            obtain ⟨o1, o2⟩ := O1
            simp only at n1 FO1 GO1
            go_wp2_with fail
            refine Bag.region (fun wx => Below (w.heap.size + 1) (w.alloc (.cells #[.int .u32 a1, .int .u32 a2] 24)) wx) (by kernel_rfl) (by kernel_rfl) HBm.out.drew ?_
            iterate 18 (first
                | (apply Bag.walk_yes (by rfl)
                   (intro wx hx K hK
                    obtain ⟨k0, k1⟩ := HBX.out _ hx
                    first
                      | (go_simp
                         first
                          | (go_at_call 18; refine (FH1.out _).mono ?_; rintro e x1 ⟨rfl, hb⟩; exact hK _ (hx.trans (hb.mono (size1 hx))))
                          | (go_at_call 19; refine (GH1.out _).mono ?_; rintro e x1 ⟨rfl, hb⟩; exact hK _ (hx.trans (hb.mono (size1 hx))))
                          | (go_at_call 20; refine (FO1.out _).mono ?_; rintro e x1 ⟨rfl, hb⟩; exact hK _ (hx.trans (hb.mono (size1 hx))))
                          | (go_at_call 21; refine (GO1.out _).mono ?_; rintro e x1 ⟨rfl, hb⟩; exact hK _ (hx.trans (hb.mono (size1 hx))))
                          | (go_at_K; exact hK _ hx)))
                   rfl)
                | (refine Bag.walk_no (by rfl) ?_; simp only [Act.put, List.setIfInBounds_toArray, List.set_cons_succ, List.set_cons_zero]))
            refine Bag.walk_nil (fun w2 hB => ?_)
            have HB2 := Lib.hid hB
            clear hB n1
            go_wp2_with fail
            go_roundw
            case rel => exact ⟨m + 1, by omega, congrArg _ HV.out, HB2.out⟩
            case measure =>
              have h1 := HY.out
              have h2 : wrap64 (y + 1) = ((m + 1 : Nat) : Int) - 1 := HV.out
              rw [h2]
              simp [intOf]; omega
        · obtain rfl : m = 6 := by omega
          go_wp2_with fail
          go_roundw
          case rel => exact ⟨k + 1, by omega, congrArg _ HW.out, HBm.out⟩
          case measure =>
            have h1 := HZ.out
            have h2 : wrap64 (z + 1) = ((k + 1 : Nat) : Int) - 1 := HW.out
            rw [h2]
            simp [intOf]; omega
    · obtain rfl : k = 35 := by omega
      have FH1 := Lib.hid (fun w => FH.out f d w)
      have GH1 := Lib.hid (fun w => GH.out f d w)
      have FO1 := Lib.hid (fun w => FO.out f d w)
      have GO1 := Lib.hid (fun w => GO.out f d w)
      cases hh : AB f d
      all_goals
        rw [hh] at FH1 GH1
        clear hh
      all_goals
        have n1 := HEQ.out (ON f d)
        generalize ON f d = O1 at *
        obtain ⟨o1, o2⟩ := O1
        simp only at n1 FO1 GO1
        go_wp2_with fail
        refine Bag.region (fun wx => Below (w.heap.size + 1) (w.alloc (.cells #[.int .u32 a1, .int .u32 a2] 24)) wx) (by kernel_rfl) (by kernel_rfl) HBr.out.drew ?_
        iterate 22 (first
            | (apply Bag.walk_yes (by rfl)
               (intro wx hx K hK
                obtain ⟨k0, k1⟩ := HBX.out _ hx
                first
                  | (go_simp
                     first
                      | (go_at_call 18; refine (FH1.out _).mono ?_; rintro e x1 ⟨rfl, hb⟩; exact hK _ (hx.trans (hb.mono (size1 hx))))
                      | (go_at_call 19; refine (GH1.out _).mono ?_; rintro e x1 ⟨rfl, hb⟩; exact hK _ (hx.trans (hb.mono (size1 hx))))
                      | (go_at_call 20; refine (FO1.out _).mono ?_; rintro e x1 ⟨rfl, hb⟩; exact hK _ (hx.trans (hb.mono (size1 hx))))
                      | (go_at_call 21; refine (GO1.out _).mono ?_; rintro e x1 ⟨rfl, hb⟩; exact hK _ (hx.trans (hb.mono (size1 hx))))
                      | (go_at_call 17; refine (FS.out _).mono ?_; rintro e x1 ⟨rfl, hb⟩; exact hK _ (hx.trans (hb.mono (size1 hx))))
                      | (go_at_K; exact hK _ hx)))
               rfl)
            | (refine Bag.walk_no (by rfl) ?_; simp only [Act.put, List.setIfInBounds_toArray, List.set_cons_succ, List.set_cons_zero]))
        refine Bag.walk_nil (fun w2 hB => ?_)
        have HB2 := Lib.hid hB
        clear hB n1
        go_wp2_with fail
        go_ret
        exact ⟨rfl, below_of_new HB2.out⟩
set_option maxRecDepth 100000 in
theorem lawCallsHas_lifted (os : Os) (started : os.Started) (H : Type) (enc : TypeId × Value → H) :
    ReturnsInHanded {} Try.checked os 4 .any (Rows.callsHasSpec.pre6 enc Try.prog Try.f4 Rows.callsHasRow.domain false) (Rows.callsHasSpec.post enc Try.prog Try.f4 false true false false) := by
  refine returnsInHanded_of_change (C := Try.checked) own started (by kernel_rfl) Try.func4
    (ChangeSpec.witness6 (enc := enc) (C := Try.checked) false ⟨#[], #[.agg #[.int .u32 0, .int .u32 0], .int .i64 0, .int .i64 0], []⟩ 8 (by kernel_rfl) (by kernel_rfl) (by kernel_rfl) (by kernel_rfl)) ?_
  intro W base args ds gs before hval0 hW hcnd _
  have hval : ∀ (j : Nat) t v, Try.f4.params[j]? = some t → args[j]? = some v → Value.okWide Try.prog W .any base t v := hval0
  have hW' := hW
  obtain ⟨p, q, hA0, hV, rfl, hfz, hnd⟩ := hW
  have hA : DataW.TrodAll enc Try.prog W 0 (fun _ => true) true Try.f4.params.toList args.toList ds p := hA0
  rw [Try.params4] at hA hval
  obtain ⟨v0, vs0, d0, ds0, p0, q0, hargs, rfl, rfl, h0, r0⟩ := trodAll_cons hA
  obtain ⟨v1, vs1, d1, ds1, p1, q1, rfl, rfl, rfl, h1, r1⟩ := trodAll_cons r0
  obtain ⟨v2, vs2, d2, ds2, p2, q2, rfl, rfl, rfl, h2, r2⟩ := trodAll_cons r1
  obtain ⟨rfl, rfl, rfl⟩ := trodAll_nil r2
  obtain rfl : args = #[v0, v1, v2] := by cases args; simp_all
  obtain ⟨rfl, rfl⟩ := trodVars_none hV
  have k0 := h0
  have lt0 : ∀ x ∈ p0, x.block < W.heap.size := by obtain ⟨m, hm⟩ := k0; exact DataW.trod_lt m _ _ _ hm
  obtain ⟨x0, rfl, g0⟩ := open_cs (hval 0 24 v0 rfl rfl) h0
  obtain ⟨x1, rfl, rfl, rfl, g1⟩ := open_int Try.underlying3 (hval 1 3 v1 rfl rfl) h1
  obtain ⟨x2, rfl, rfl, rfl, g2⟩ := open_int Try.underlying3 (hval 2 3 v2 rfl rfl) h2
  clear hA0 hval0
  refine (lawCallsHas_walk x0 x1 x2 W g0 g1 g2).mono fun e W' ⟨he, bel⟩ => ?_
  subst he
  exact ⟨_, rfl, _, _, _, [], _, [], hW', trodAll_mk1 (shut_bool Try.underlying4 _), (trodAll_cons_mk (Below.trod laidOut (by kernel_rfl) (of_decide_eq_true (by kernel_rfl)) k0 bel lt0) (trodAll_cons_mk (shut_int Try.underlying3 g1) (trodAll_cons_mk (shut_int Try.underlying3 g2) trodAll_mk0))), rfl, bel.frame _, fun h => by cases h⟩

theorem lawCallsHas_over : Rows.callsHasRow.holds Try.pinned (OpenSpec.ofChange Rows.callsHasSpec) :=
  OpenClaim.holds_of_wide 4 Try.f4 rfl rfl rfl rfl rfl rfl rfl ⟨rfl, rfl, rfl, rfl, rfl⟩ rfl rfl rfl rfl rfl (by kernel_rfl) Try.func4 (by kernel_rfl)
    (of_decide_eq_true (by kernel_rfl)) (by unfold Func.isWrapper; first | (rw [if_pos (by decide +kernel)]; kernel_rfl) | (rw [if_neg (by decide +kernel)]; exact ⟨rfl, rfl⟩))
    (fun os started H enc _ => lawCallsHas_lifted os started H enc)

theorem callsHas_holds : Rows.CallsHasSaid := lawCallsHas_over
#print axioms callsHas_holds
end Go.Proofs.Ytclkfclbnapamaa
