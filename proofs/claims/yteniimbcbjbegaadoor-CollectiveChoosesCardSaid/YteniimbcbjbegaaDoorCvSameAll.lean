/- same of stage 11's laws, for any arguments. No statement of the seat is proved here. -/
import Derived.Test.YteniimbcbjbegaaDoorCvRefF
import Derived.Test.YteniimbcbjbegaaDoorCvSane
namespace Go.Proofs.YteniimbcbjbegaaDoor
open Go.RowKit Ghost

theorem proper_nat {F f d o : Int} (h : proper F f d o = true) : ∃ F' f' d' o' : Nat, F = F' ∧ f = f' ∧ d = d' ∧ o = o' ∧ 2 ≤ F' ∧ F' ≤ 32 ∧ f' < F' ∧ d' ≤ 2 ∧ o' ≤ 7 := by
  unfold proper isSw at h
  simp only [Bool.and_eq_true, decide_eq_true_eq] at h
  exact ⟨F.toNat, f.toNat, d.toNat, o.toNat, by omega, by omega, by omega, by omega, by omega, by omega, by omega, by omega, by omega⟩
theorem choose_both (F f d o : Int) (s : Stp) (w : World) (hs : s.ok) (hT : Tabs w) : ∃ c1 c2 c3 : Int,
    (∀ wx, Below w.heap.size w wx → Calls Tryd.prog 11 #[.int .i64 F, .agg #[.int .i64 d, .int .i64 o], .int .i64 f, s.agg] wx fun e w' => e = .returned (.agg #[.int .i64 c1, .int .i64 c2, .int .i64 c3]) ∧ Below wx.heap.size wx w') ∧
    (∀ wx, Calls Tryd.prog 17 #[.int .i64 F, .agg #[.int .i64 d, .int .i64 o], .int .i64 f, s.agg] wx fun e w' => e = .returned (.agg #[.int .i64 c1, .int .i64 c2, .int .i64 c3]) ∧ Below wx.heap.size wx w') := by
  cases hp : proper F f d o
  · exact ⟨0, 0, 0, fun wx _ => ChooseBad_any F f d o s wx hp, fun wx => refChooseBad_any F f d o s wx hp⟩
  · obtain ⟨F', f', d', o', rfl, rfl, rfl, rfl, h1, h2, h3, h4, h5⟩ := proper_nat hp
    exact ⟨_, _, _, fun wx hb => ChooseGood_any F' f' d' o' s wx h1 h2 h3 h4 h5 hs (hT.below hb), fun wx => refChooseGood_any F' f' d' o' s wx h1 h2 h3 h4 h5 hs⟩
theorem next_both (F f d o : Int) (s : Stp) (w : World) (hs : s.ok) (hT : Tabs w) : ∃ c1 c2 : Int,
    (∀ wx, Below w.heap.size w wx → Calls Tryd.prog 15 #[.int .i64 F, .agg #[.int .i64 d, .int .i64 o], .int .i64 f, s.agg] wx fun e w' => e = .returned (.agg #[.int .i64 c1, .int .i64 c2]) ∧ Below wx.heap.size wx w') ∧
    (∀ wx, Calls Tryd.prog 18 #[.int .i64 F, .agg #[.int .i64 d, .int .i64 o], .int .i64 f, s.agg] wx fun e w' => e = .returned (.agg #[.int .i64 c1, .int .i64 c2]) ∧ Below wx.heap.size wx w') := by
  cases hp : proper F f d o
  · exact ⟨0, 0, fun wx _ => NextBad_any F f d o s wx hp, fun wx => refNextBad_any F f d o s wx hp⟩
  · obtain ⟨F', f', d', o', rfl, rfl, rfl, rfl, h1, h2, h3, h4, h5⟩ := proper_nat hp
    exact ⟨_, _, fun wx hb => NextGood_any F' f' d' o' s wx h1 h2 h3 h4 h5 hs (hT.below hb), fun wx => refNextGood_any F' f' d' o' s wx h1 h2 h3 h4 h5 hs⟩
theorem spent_both (F f d o : Int) (s : Stp) (w : World) (hs : s.ok) (hT : Tabs w) : ∃ c1 c2 c3 : Int,
    (∀ wx, Below w.heap.size w wx → Calls Tryd.prog 19 #[.int .i64 F, .agg #[.int .i64 d, .int .i64 o], .int .i64 f, s.agg] wx fun e w' => e = .returned (.agg #[.int .u32 c1, .int .u32 c2, .int .u32 c3]) ∧ Below wx.heap.size wx w') ∧
    (∀ wx, Calls Tryd.prog 20 #[.int .i64 F, .agg #[.int .i64 d, .int .i64 o], .int .i64 f, s.agg] wx fun e w' => e = .returned (.agg #[.int .u32 c1, .int .u32 c2, .int .u32 c3]) ∧ Below wx.heap.size wx w') := by
  cases hp : proper F f d o
  · exact ⟨0, 0, 0, fun wx _ => SpentBad_any F f d o s wx hp, fun wx => refSpentBad_any F f d o s wx hp⟩
  · obtain ⟨F', f', d', o', rfl, rfl, rfl, rfl, h1, h2, h3, h4, h5⟩ := proper_nat hp
    exact ⟨_, _, _, fun wx hb => SpentGood_any F' f' d' o' s wx h1 h2 h3 h4 h5 hs (hT.below hb), fun wx => refSpentGood_any F' f' d' o' s wx h1 h2 h3 h4 h5 hs⟩
set_option maxHeartbeats 8000000 in
theorem same11_any (F f d o : Int) (s : Stp) (w : World) (hs : s.ok) (hT : Tabs w) :
    Calls Tryd.prog 8 #[.int .i64 F, .agg #[.int .i64 d, .int .i64 o, .int .i64 f], s.agg] w fun e w' => e = .returned (.bool true) ∧ Below w.heap.size w w' := by
  obtain ⟨c1, c2, c3, hc, hcr⟩ := choose_both F f d o s w hs hT
  obtain ⟨n1, n2, hn, hnr⟩ := next_both F f d o s w hs hT
  obtain ⟨x1, x2, x3, hx, hxr⟩ := spent_both F f d o s w hs hT
  have FC := Lib.hid hc
  have FCR := Lib.hid hcr
  have FN := Lib.hid hn
  have FNR := Lib.hid hnr
  have FX := Lib.hid hx
  have FXR := Lib.hid hxr
  have FI := Lib.hid (fun wx => isSweep_any d o wx)
  have FIR := Lib.hid (fun wx => refIsSweep_any d o wx)
  clear hc hcr hn hnr hx hxr hT hs
  generalize isSw d o = q at *
  have e1 := eqlCh c1 c2 c3 c1 c2 c3
  have e2 := eqlSw n1 n2 n1 n2
  have e3 := eqlSt x1 x2 x3 x1 x2 x3
  simp only [beq_self_eq_true, Bool.and_self] at e1 e2 e3
  have eq : (q == q) = true := by cases q <;> rfl
  obtain ⟨s1, s2, s3⟩ := s
  simp only [Stp.agg] at *
  have HB0 := Lib.hid (bxs2 w (.cells #[.int .i64 d, .int .i64 o, .int .i64 f] 25) (.cells #[.int .u32 s1, .int .u32 s2, .int .u32 s3] 30))
  go_enter Tryd.func8, Tryd.ntmps8
  go_wp2_with fail
  generalize hWW : ((w.alloc (.cells #[.int .i64 d, .int .i64 o, .int .i64 f] 25)).alloc (.cells #[.int .u32 s1, .int .u32 s2, .int .u32 s3] 30)) = W at *
  clear hWW
  go_wp2_with fail
  refine Bag.region (fun wx => Below W.heap.size W wx) (by kernel_rfl) (by kernel_rfl) (Below.refl _ _).drew ?_
  iterate 59 (first
      | (apply Bag.walk_yes (by rfl)
         (intro wx hx K hK
          have HXx := HB0.out.next hx
          have z0_0 : wx.cell? ⟨w.heap.size, 0, none⟩ = some (.int .i64 d) := cell_of_row _ _ _ _ _ (0, 0) HXx.r0
          have z0_1 : wx.cell? ⟨w.heap.size, 1, none⟩ = some (.int .i64 o) := cell_of_row _ _ _ _ _ (0, 0) HXx.r0
          have z0_2 : wx.cell? ⟨w.heap.size, 2, none⟩ = some (.int .i64 f) := cell_of_row _ _ _ _ _ (0, 0) HXx.r0
          have z1_0 : wx.cell? ⟨w.heap.size + 1, 0, none⟩ = some (.int .u32 s1) := cell_of_row _ _ _ _ _ (0, 0) HXx.r1
          have z1_1 : wx.cell? ⟨w.heap.size + 1, 1, none⟩ = some (.int .u32 s2) := cell_of_row _ _ _ _ _ (0, 0) HXx.r1
          have z1_2 : wx.cell? ⟨w.heap.size + 1, 2, none⟩ = some (.int .u32 s3) := cell_of_row _ _ _ _ _ (0, 0) HXx.r1
          first
            | (go_simp
               first
                | (go_at_call 11; (with_reducible refine (FC.out _ HXx.below).mono ?_); rintro e x1 ⟨rfl, hb⟩; exact hK _ (hx.trans (hb.mono hx.size)))
                | (go_at_call 17; (with_reducible refine (FCR.out _).mono ?_); rintro e x1 ⟨rfl, hb⟩; exact hK _ (hx.trans (hb.mono hx.size)))
                | (go_at_call 15; (with_reducible refine (FN.out _ HXx.below).mono ?_); rintro e x1 ⟨rfl, hb⟩; exact hK _ (hx.trans (hb.mono hx.size)))
                | (go_at_call 18; (with_reducible refine (FNR.out _).mono ?_); rintro e x1 ⟨rfl, hb⟩; exact hK _ (hx.trans (hb.mono hx.size)))
                | (go_at_call 19; (with_reducible refine (FX.out _ HXx.below).mono ?_); rintro e x1 ⟨rfl, hb⟩; exact hK _ (hx.trans (hb.mono hx.size)))
                | (go_at_call 20; (with_reducible refine (FXR.out _).mono ?_); rintro e x1 ⟨rfl, hb⟩; exact hK _ (hx.trans (hb.mono hx.size)))
                | (go_at_call 21; (with_reducible refine (FI.out _).mono ?_); rintro e x1 ⟨rfl, hb⟩; exact hK _ (hx.trans (hb.mono hx.size)))
                | (go_at_call 22; (with_reducible refine (FIR.out _).mono ?_); rintro e x1 ⟨rfl, hb⟩; exact hK _ (hx.trans (hb.mono hx.size)))
                | (go_at_K; exact hK _ hx)))
         rfl)
      | (refine Bag.walk_no (by rfl) ?_; simp only [Act.put, List.setIfInBounds_toArray, List.set_cons_succ, List.set_cons_zero]))
  refine Bag.walk_nil (fun w1 hb1 => ?_)
  have HB1 := Lib.hid (HB0.out.next hb1)
  clear hb1 HB0
  go_wp2_with fail
  go_ret
  exact ⟨rfl, HB1.out.below⟩
end Go.Proofs.YteniimbcbjbegaaDoor
