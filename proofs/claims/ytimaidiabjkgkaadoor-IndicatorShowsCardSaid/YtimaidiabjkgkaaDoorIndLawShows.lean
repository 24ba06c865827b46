/- The law IndicatorShows: which call an observation shows. No condition but the tables. -/
import Derived.Test.YtimaidiabjkgkaaDoorIndOpen
import Derived.Test.YtimaidiabjkgkaaDoorLitMore
import Derived.Test.YtimaidiabjkgkaaDoorCards
import Derived.Test.YtimaidiabjkgkaaDoorTie
import Derived.SevenTiedAt
namespace Go.Proofs.YtimaidiabjkgkaaDoor
open Go Go.RowKit Go.ChangeShapes Go.WideShapes Go.ChangeAt

set_option linter.unusedVariables false
set_option linter.unusedSimpArgs false
set_option maxRecDepth 100000 in
set_option maxHeartbeats 8000000 in
theorem lawIndicatorShows_walk (fl : Int) (c : Ob) (w : World) (hT : Tabs w) (hfl : (Lit.int .i64 fl).wf = true) (hc : (-9223372036854775808 ≤ c.f ∧ c.f < 9223372036854775808) ∧ (-9223372036854775808 ≤ c.d ∧ c.d < 9223372036854775808) ∧ (-9223372036854775808 ≤ c.g ∧ c.g < 9223372036854775808)) :
    Calls Tryd.prog 5 #[.int .i64 fl, c.agg] w fun e w' => e = .returned (.bool true) ∧ Below w.heap.size w w' := by
  clear hfl hc
  obtain ⟨U, hU⟩ : ∃ U : Nat, fl % 18446744073709551616 = (U : Int) := ⟨(fl % 18446744073709551616).toNat, by omega⟩
  have hU2 : IntKind.u64.wrap fl = (U : Int) := by rw [IntKind.wrap_u64]; exact hU
  have hUl : U < 18446744073709551616 := by omega
  obtain ⟨r, hr⟩ : ∃ r : Nat, r = U % 31 := ⟨_, rfl⟩
  have hr31 : r < 31 := by omega
  have hm1 : (U : Int).tmod 31 = (r : Int) := by rw [Int.tmod_eq_emod_of_nonneg (by omega)]; omega
  have hm2 : (U : Int) % 31 = (r : Int) := by omega
  obtain ⟨m, hm⟩ : ∃ m : Int, 2 + (r : Int) = m := ⟨_, rfl⟩
  have m2 : 2 ≤ m := by omega
  have m32 : m ≤ 32 := by omega
  clear hr
  have HT := Lib.hid (fun (w1 : World) (hb : Below w.heap.size w w1) => hT.below hb)
  have A := Lib.hid (fun (n : Int) (x : Ob) w => shows_any n x w)
  have B := Lib.hid (fun (n : Int) (x : Ob) w => refShows_any n x w)
  have C := Lib.hid (fun (n : Int) (x : Ob) w => isObs_any n x w)
  have D := Lib.hid (fun (n : Int) (x : Ob) w => refIsObs_any n x w)
  have HS := Lib.hid (fun w hT => sane_any w hT)
  clear hT
  obtain ⟨f0, d0, g0⟩ := c
  simp only [Ob.agg]
  have HK := Lib.hid (Lit.one w (.cells #[.int .i64 f0, .int .i64 d0, .int .i64 g0] 31))
  go_enter Tryd.func5, Tryd.ntmps5
  go_wp2_with fail
  try simp only [hU, hU2, hm1, hm2, hm]
  go_loopw [6] (fun v wr => ∃ z : Int, -2 ≤ z ∧ z ≤ m + 1 ∧ v = .int .i64 z ∧ Lit w.heap.size w w.heap.size (.cells #[.int .i64 f0, .int .i64 d0, .int .i64 g0] 31 (0, 0)) wr) (fun v _ => (m + 1 - intOf v).toNat)
  case atStart => exact ⟨-2, by decide, by omega, rfl, HK.out⟩
  case round =>
    clear HK
    obtain ⟨z, hz1, hz2, rfl, K1⟩ := hrel
    have HK := Lib.hid K1
    clear K1
    clear hm1 hm2 hU hU2 hm hr31 hUl
    by_cases hlt : z ≤ m
    · go_wp2_with fail
      go_loopw [7] (fun v wr => ∃ d : Int, -1 ≤ d ∧ d ≤ 5 ∧ v = .int .i64 d ∧ Lit w.heap.size w w.heap.size (.cells #[.int .i64 f0, .int .i64 d0, .int .i64 g0] 31 (0, 0)) wr) (fun v _ => (5 - intOf v).toNat)
      case atStart => exact ⟨-1, by decide, by decide, rfl, HK.out⟩
      case round =>
        clear HK
        obtain ⟨d, hd1, hd2, rfl, K1⟩ := hrel
        have HK := Lib.hid K1
        clear K1
        by_cases hltd : d < 5
        · go_wp2_with fail
          go_loopw [8] (fun v wr => ∃ g : Int, -1 ≤ g ∧ g ≤ 5 ∧ v = .int .i64 g ∧ Lit w.heap.size w w.heap.size (.cells #[.int .i64 f0, .int .i64 d0, .int .i64 g0] 31 (0, 0)) wr) (fun v _ => (5 - intOf v).toNat)
          case atStart => exact ⟨-1, by decide, by decide, rfl, HK.out⟩
          case round =>
            clear HK
            obtain ⟨g, hg1, hg2, rfl, K1⟩ := hrel
            have HK := Lib.hid K1
            clear K1
            by_cases hltg : g < 5
            · have A1 := Lib.hid (fun w => A.out m ⟨z, d, g⟩ w)
              have B1 := Lib.hid (fun w => B.out m ⟨z, d, g⟩ w)
              have C1 := Lib.hid (fun w => C.out m ⟨z, d, g⟩ w)
              have D1 := Lib.hid (fun w => D.out m ⟨z, d, g⟩ w)
              clear A B C D
              simp only [Ob.agg, Cl] at A1 B1 C1 D1
              generalize ((Ind.shows m ⟨z, d, g⟩).1 : Int) = s1 at *
              generalize ((Ind.shows m ⟨z, d, g⟩).2 : Int) = s2 at *
              generalize Ind.isObs m ⟨z, d, g⟩ = ob at *
              go_wp2_with fail
              have HN := Lib.hid (And.intro (HK.out.alloc (.cells #[.int .i64 z, .int .i64 d, .int .i64 g] 31)) (Lit.one wr (.cells #[.int .i64 z, .int .i64 d, .int .i64 g] 31)))
              clear HK
              refine Bag.region (fun wx => Lit w.heap.size w w.heap.size (.cells #[.int .i64 f0, .int .i64 d0, .int .i64 g0] 31 (0, 0)) wx ∧ Lit wr.heap.size wr wr.heap.size (.cells #[.int .i64 z, .int .i64 d, .int .i64 g] 31 (0, 0)) wx) (by kernel_rfl) (by kernel_rfl) (by exact ⟨HN.out.1.next (Below.refl _ _).drew, HN.out.2.next (Below.refl _ _).drew⟩) ?_
              iterate 16 (first
                  | (apply Bag.walk_yes (by rfl)
                     (intro wx hx K hK
                      have s0 := hx.2.cell 0
                      have s1 := hx.2.cell 1
                      have s2 := hx.2.cell 2
                      simp only [List.getElem?_toArray, List.getElem?_cons_zero, List.getElem?_cons_succ] at s0 s1 s2
                      first
                        | (go_simp
                           first
                            | (go_at_call 14; refine (A1.out _).mono ?_; rintro e x1 ⟨rfl, hb⟩; exact hK _ ⟨hx.1.next hb, hx.2.next hb⟩)
                            | (go_at_call 15; refine (B1.out _).mono ?_; rintro e x1 ⟨rfl, hb⟩; exact hK _ ⟨hx.1.next hb, hx.2.next hb⟩)
                            | (go_at_call 13; refine (C1.out _).mono ?_; rintro e x1 ⟨rfl, hb⟩; exact hK _ ⟨hx.1.next hb, hx.2.next hb⟩)
                            | (go_at_call 16; refine (D1.out _).mono ?_; rintro e x1 ⟨rfl, hb⟩; exact hK _ ⟨hx.1.next hb, hx.2.next hb⟩)
                            | (go_at_K; exact hK _ hx)))
                     rfl)
                  | (refine Bag.walk_no (by rfl) ?_; simp only [Act.put, List.setIfInBounds_toArray, List.set_cons_succ, List.set_cons_zero]))
              refine Bag.walk_nil (fun w2 hB => ?_)
              have HB := Lib.hid hB
              clear hB HN
              go_wp2_with fail
              go_roundw
              case rel => exact ⟨g + 1, by omega, by omega, by go_num, HB.out.1⟩
              case measure => simp only [intOf]; omega
            · go_wp2_with fail
              go_roundw
              case rel => exact ⟨d + 1, by omega, by omega, by go_num, HK.out⟩
              case measure => simp only [intOf]; omega
        · go_wp2_with fail
          go_roundw
          case rel => exact ⟨z + 1, by omega, by omega, by go_num, HK.out⟩
          case measure => simp only [intOf]; omega
    · have A1 := Lib.hid (fun w => A.out fl ⟨f0, d0, g0⟩ w)
      have B1 := Lib.hid (fun w => B.out fl ⟨f0, d0, g0⟩ w)
      have C1 := Lib.hid (fun w => C.out fl ⟨f0, d0, g0⟩ w)
      have D1 := Lib.hid (fun w => D.out fl ⟨f0, d0, g0⟩ w)
      clear A B C D
      simp only [Ob.agg, Cl] at A1 B1 C1 D1
      generalize ((Ind.shows fl ⟨f0, d0, g0⟩).1 : Int) = s1 at *
      generalize ((Ind.shows fl ⟨f0, d0, g0⟩).2 : Int) = s2 at *
      generalize Ind.isObs fl ⟨f0, d0, g0⟩ = ob at *
      go_wp2_with fail
      refine Bag.region (fun wx => Lit w.heap.size w w.heap.size (.cells #[.int .i64 f0, .int .i64 d0, .int .i64 g0] 31 (0, 0)) wx) (by kernel_rfl) (by kernel_rfl) (by exact HK.out.next (Below.refl _ _).drew) ?_
      iterate 20 (first
          | (apply Bag.walk_yes (by rfl)
             (intro wx hx K hK
              have s0 := hx.cell 0
              have s1 := hx.cell 1
              have s2 := hx.cell 2
              simp only [List.getElem?_toArray, List.getElem?_cons_zero, List.getElem?_cons_succ] at s0 s1 s2
              first
                | (go_simp
                   first
                    | (go_at_call 14; refine (A1.out _).mono ?_; rintro e x1 ⟨rfl, hb⟩; exact hK _ (hx.next hb))
                    | (go_at_call 15; refine (B1.out _).mono ?_; rintro e x1 ⟨rfl, hb⟩; exact hK _ (hx.next hb))
                    | (go_at_call 13; refine (C1.out _).mono ?_; rintro e x1 ⟨rfl, hb⟩; exact hK _ (hx.next hb))
                    | (go_at_call 16; refine (D1.out _).mono ?_; rintro e x1 ⟨rfl, hb⟩; exact hK _ (hx.next hb))
                    | (go_at_call 10; refine (HS.out _ (HT.out _ hx.below)).mono ?_; rintro e x1 ⟨rfl, hb⟩; exact hK _ (hx.next hb))
                    | (go_at_K; exact hK _ hx)))
             rfl)
          | (refine Bag.walk_no (by rfl) ?_; simp only [Act.put, List.setIfInBounds_toArray, List.set_cons_succ, List.set_cons_zero]))
      refine Bag.walk_nil (fun w2 hB => ?_)
      have HB := Lib.hid hB.below
      clear hB HK
      go_wp2_with fail
      go_ret
      exact ⟨rfl, HB.out⟩

set_option maxRecDepth 100000 in
theorem lawIndicatorShows_lifted (os : Os) (started : os.Started) (H : Type) (enc : TypeId × Value → H) :
    ReturnsInHanded {} Tryd.checked os 5 .any (fun w args => (Rows.indicatorShowsSpec.pre enc Tryd.prog Tryd.f5 [] false w args ∧ laidMetH Tryd.prog laidAll w) ∧ sizedMet enc Tryd.prog Tryd.f5 (OpenSpec.ofChange Rows.indicatorShowsSpec) false w args) (Rows.indicatorShowsSpec.post enc Tryd.prog Tryd.f5 false true false false) := by
  refine returnsInHanded_of_change_and (C := Tryd.checked) (X := fun w _ => laidMetH Tryd.prog laidAll w) (fun _ _ _ hh h => h.of_heap hh) own started (by kernel_rfl) Tryd.func5
    (ChangeSpec.witness_shaped (enc := enc) (C := Tryd.checked) (os := os) (X := fun w _ => laidMetH Tryd.prog laidAll w) false (World.doorLaid Tryd.prog 24 os) #[.int .i64 0, .agg #[.int .i64 0, .int .i64 0, .int .i64 0]] 8 rfl (World.shaped_of_RefB (by kernel_rfl) (by kernel_rfl)) (by kernel_rfl) (by kernel_rfl) (by kernel_rfl) (door_met os _)) ?_
  intro W base args ds gs before hval0 hW _ _ hL _
  have hval : ∀ (j : Nat) t v, Tryd.f5.params[j]? = some t → args[j]? = some v → Value.okWide Tryd.prog W .any base t v := hval0
  have hW' := hW
  obtain ⟨p, q, hA0, hV, rfl, hfz, hnd⟩ := hW
  have hA : DataW.TrodAll enc Tryd.prog W 0 (fun _ => true) true Tryd.f5.params.toList args.toList ds p := hA0
  rw [Tryd.params5] at hA hval
  obtain ⟨v0, vs0, d0, ds0, p0, q0, hargs, rfl, rfl, h0, r0⟩ := trodAll_cons hA
  obtain ⟨v1, vs1, d1, ds1, p1, q1, rfl, rfl, rfl, h1, r1⟩ := trodAll_cons r0
  obtain ⟨rfl, rfl, rfl⟩ := trodAll_nil r1
  obtain rfl : args = #[v0, v1] := by cases args; simp_all
  obtain ⟨rfl, rfl⟩ := trodVars_none hV
  obtain ⟨x0, rfl, rfl, rfl, g0⟩ := open_int Tryd.underlying3 (hval 0 3 v0 rfl rfl) h0
  have k1 := h1
  have lt1 : ∀ x ∈ p1, x.block < W.heap.size := by obtain ⟨m, hm⟩ := k1; exact DataW.trod_lt m _ _ _ hm
  obtain ⟨x1, rfl, g1⟩ := open_ob (hval 1 31 v1 rfl rfl) h1
  clear hA0 hval0
  refine (lawIndicatorShows_walk x0 x1 W (tabs_of_laid hL) g0 g1).mono fun e W' ⟨he, bel⟩ => ?_
  subst he
  exact ⟨_, rfl, _, _, _, [], _, [], hW', trodAll_mk1 (shut_bool Tryd.underlying4 _), (trodAll_cons_mk (shut_int Tryd.underlying3 g0) (trodAll_cons_mk (Below.trod laidOut (by kernel_rfl) (of_decide_eq_true (by kernel_rfl)) k1 bel lt1) trodAll_mk0)), rfl, bel.frame _, fun h => by cases h⟩

theorem lawIndicatorShows_over : Rows.indicatorShowsRow.holds Tryd.pinned (OpenSpec.ofChange Rows.indicatorShowsSpec) :=
  OpenClaim.holds_of_wide 5 Tryd.f5 rfl rfl rfl rfl rfl rfl rfl ⟨rfl, rfl, rfl, rfl, rfl⟩ rfl rfl rfl rfl rfl (by kernel_rfl) Tryd.func5 (by kernel_rfl)
    (of_decide_eq_true (by kernel_rfl)) (by unfold Func.isWrapper; first | (rw [if_pos (by decide +kernel)]; kernel_rfl) | (rw [if_neg (by decide +kernel)]; exact ⟨rfl, rfl⟩))
    (fun os started H enc _ => lawIndicatorShows_lifted os started H enc)

theorem indicatorShows_card : Rows.IndicatorShowsCardSaid :=
  Claim7.holds_tied_plain_at .later [] _ _ _ _ lawIndicatorShows_over (fun _ h => by cases h) (by kernel_rfl) (fun _ h => by cases h) indicatorShows_row_tie rfl ⟨rfl, rfl⟩ (by kernel_rfl) rfl
    (fun f fn hf hfn => by
      obtain rfl : f = 5 := Option.some.inj ((show Tryd.prog.funcNamed "overlay/overlaylaw05.IndicatorShows" = some 5 by kernel_rfl).symm.trans hf) |>.symm
      obtain rfl : fn = Tryd.f5 := (Option.some.inj (Tryd.func5.symm.trans hfn)).symm
      exact ⟨by kernel_rfl, fun j t ht => by
        rw [Tryd.params5] at ht
        have hm : t ∈ [3, 31] := by simpa using Array.mem_of_getElem? ht
        have hall : ([3, 31].all fun u => !Tryd.prog.wantsStandIn u) = true := by kernel_rfl
        exact (show Tryd.prog.wantsStandIn t = false by simpa using List.all_eq_true.1 hall t hm)⟩)
    (by kernel_rfl)
#print axioms indicatorShows_card

end Go.Proofs.YtimaidiabjkgkaaDoor
