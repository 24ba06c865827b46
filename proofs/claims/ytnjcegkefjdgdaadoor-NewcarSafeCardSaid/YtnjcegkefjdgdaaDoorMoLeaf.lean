/- The program's small functions of stage 13. No statement of the seat is proved here. -/
import Derived.Test.YtnjcegkefjdgdaaDoorG13
namespace Go.Proofs.YtnjcegkefjdgdaaDoor
open Go.RowKit

set_option maxHeartbeats 2000000 in
theorem moWithin_any (lo hi n : Int) (w : World) :
    Calls Tryd.prog 53 #[.int .i64 lo, .int .i64 hi, .int .i64 n] w fun ee w' => ee = .returned (.bool (Mo.wi lo hi n)) ∧ Below w.heap.size w w' := by
  unfold Mo.wi
  by_cases h1 : lo ≤ n
  all_goals
    by_cases h2 : n ≤ hi
    all_goals
      first
        | rw [decide_eq_true h1]
        | rw [decide_eq_false h1]
      first
        | rw [decide_eq_true h2]
        | rw [decide_eq_false h2]
      go_enter Tryd.func53, Tryd.ntmps53
      go_wp2
      go_ret
      exact ⟨rfl, by go_grown⟩
set_option maxHeartbeats 2000000 in
theorem isFloor_any (F n : Int) (w : World) (hF : 2 ≤ F ∧ F ≤ 32) :
    Calls Tryd.prog 65 #[.int .i64 F, .int .i64 n] w fun ee w' => ee = .returned (.bool (Mo.isF F n)) ∧ Below w.heap.size w w' := by
  have hw : IntKind.i64.wrap (F - 1) = F - 1 := by rw [IntKind.wrap_i64]; omega
  have FW := Lib.hid (fun wx => moWithin_any 0 (F - 1) n wx)
  rw [Mo.wi_isF] at FW
  clear hF
  have HB0 : Hid (Bx w [] w) := Lib.hid ⟨Below.refl _ _, fun p hp => by simp at hp⟩
  go_enter Tryd.func65, Tryd.ntmps65
  go_wp2_with fail
  refine (FW.out _).mono ?_
  rintro e w1 ⟨rfl, hb1⟩
  have HB1 := Lib.hid (HB0.out.next hb1)
  clear hb1 HB0
  go_wp2_with fail
  go_ret
  exact ⟨rfl, HB1.out.below⟩
set_option maxHeartbeats 4000000 in
theorem target_any (F f c : Int) (w : World) (hF : 2 ≤ F ∧ F ≤ 32) (hT : Tabs w) :
    Calls Tryd.prog 54 #[.int .i64 F, .int .i64 f, .int .i64 c] w fun ee w' => ee = .returned (.tuple #[.int .i64 (Mo.toF F f c), .bool (Mo.go F f c)]) ∧ Below w.heap.size w w' := by
  have HT := Lib.hid (fun w1 hb => hT.below (w' := w1) hb)
  clear hT
  by_cases hc : 0 ≤ c ∧ c ≤ 2
  · have FW := Lib.hid (fun wx => moWithin_any 0 2 c wx)
    rw [Mo.wi_of hc] at FW
    have FI := Lib.hid (fun wx => isFloor_any F f wx hF)
    cases hf : Mo.isF F f
    · rw [hf] at FI
      rw [show Mo.toF F f c = 0 from if_neg (fun h => by rw [hf] at h; cases h.2)]
      rw [show Mo.go F f c = false by unfold Mo.go; rw [hf]; simp]
      clear hf hc HT hF
      have HB0 : Hid (Bx w [] w) := Lib.hid ⟨Below.refl _ _, fun p hp => by simp at hp⟩
      go_enter Tryd.func54, Tryd.ntmps54
      go_wp2_with fail
      refine (FW.out _).mono ?_
      rintro e w1 ⟨rfl, hb1⟩
      have HB1 := Lib.hid (HB0.out.next hb1)
      clear hb1 HB0
      go_wp2_with fail
      refine (FI.out _).mono ?_
      rintro e w2 ⟨rfl, hb2⟩
      have HB2 := Lib.hid (HB1.out.next hb2)
      clear hb2 HB1
      go_wp2_with fail
      exact bodyPost_ret (results_tmp2 Tryd.results54 _ _ _) rfl ⟨rfl, HB2.out.below⟩
    · rw [hf] at FI
      have hfr := Mo.isF_iff.1 hf
      have h012 : c = 0 ∨ c = 1 ∨ c = 2 := by omega
      clear hc
      rcases h012 with rfl | rfl | rfl
      · rw [show Mo.toF F f 0 = f from if_pos ⟨by decide, hf⟩]
        rw [Mo.go_zero]
        have hw : IntKind.i64.wrap (f) = f := by rw [IntKind.wrap_i64]; omega
        clear hf hF hfr
        have HB0 : Hid (Bx w [] w) := Lib.hid ⟨Below.refl _ _, fun p hp => by simp at hp⟩
        go_enter Tryd.func54, Tryd.ntmps54
        go_wp2_with fail
        refine (FW.out _).mono ?_
        rintro e w1 ⟨rfl, hb1⟩
        have HB1 := Lib.hid (HB0.out.next hb1)
        clear hb1 HB0
        go_wp2_with fail
        refine (FI.out _).mono ?_
        rintro e w2 ⟨rfl, hb2⟩
        have HB2 := Lib.hid (HB1.out.next hb2)
        clear hb2 HB1
        have ct : w2.cell? ⟨1, 0, none⟩ = some (.int .i64 (0)) := (HT.out _ HB2.out.below).ahead 0 (by decide)
        go_wp2_with fail
        exact bodyPost_ret (results_tmp2 Tryd.results54 _ _ _) rfl ⟨rfl, HB2.out.below⟩
      · rw [show Mo.toF F f 1 = f + 1 from if_pos ⟨by decide, hf⟩]
        rw [show Mo.go F f 1 = Mo.isF F (f + 1) by unfold Mo.go; rw [hf]; rfl]
        have FI2 := Lib.hid (fun wx => isFloor_any F (f + 1) wx hF)
        generalize Mo.isF F (f + 1) = q at *
        have hne : ((f + 1) != f) = true := by simp only [bne_iff_ne, ne_eq]; omega
        have hne2 : ¬ (f + 1) = f := by omega
        have hw : IntKind.i64.wrap (f + 1) = f + 1 := by rw [IntKind.wrap_i64]; omega
        clear hf hF hfr
        have HB0 : Hid (Bx w [] w) := Lib.hid ⟨Below.refl _ _, fun p hp => by simp at hp⟩
        go_enter Tryd.func54, Tryd.ntmps54
        go_wp2_with fail
        refine (FW.out _).mono ?_
        rintro e w1 ⟨rfl, hb1⟩
        have HB1 := Lib.hid (HB0.out.next hb1)
        clear hb1 HB0
        go_wp2_with fail
        refine (FI.out _).mono ?_
        rintro e w2 ⟨rfl, hb2⟩
        have HB2 := Lib.hid (HB1.out.next hb2)
        clear hb2 HB1
        have ct : w2.cell? ⟨1, 1, none⟩ = some (.int .i64 (1)) := (HT.out _ HB2.out.below).ahead 1 (by decide)
        go_wp2_with fail
        refine (FI2.out _).mono ?_
        rintro e w3 ⟨rfl, hb3⟩
        have HB3 := Lib.hid (HB2.out.next hb3)
        clear ct hb3 HB2
        go_wp2_with fail
        exact bodyPost_ret (results_tmp2 Tryd.results54 _ _ _) rfl ⟨rfl, HB3.out.below⟩
      · rw [show Mo.toF F f 2 = f - 1 from if_pos ⟨by decide, hf⟩]
        rw [show Mo.go F f 2 = Mo.isF F (f - 1) by unfold Mo.go; rw [hf]; rfl]
        have FI2 := Lib.hid (fun wx => isFloor_any F (f - 1) wx hF)
        generalize Mo.isF F (f - 1) = q at *
        have hne : ((f - 1) != f) = true := by simp only [bne_iff_ne, ne_eq]; omega
        have hne2 : ¬ (f - 1) = f := by omega
        have hw : IntKind.i64.wrap (f - 1) = f - 1 := by rw [IntKind.wrap_i64]; omega
        have hw2 : IntKind.i64.wrap (f + -1) = f - 1 := by rw [IntKind.wrap_i64]; omega
        clear hf hF hfr
        have HB0 : Hid (Bx w [] w) := Lib.hid ⟨Below.refl _ _, fun p hp => by simp at hp⟩
        go_enter Tryd.func54, Tryd.ntmps54
        go_wp2_with fail
        refine (FW.out _).mono ?_
        rintro e w1 ⟨rfl, hb1⟩
        have HB1 := Lib.hid (HB0.out.next hb1)
        clear hb1 HB0
        go_wp2_with fail
        refine (FI.out _).mono ?_
        rintro e w2 ⟨rfl, hb2⟩
        have HB2 := Lib.hid (HB1.out.next hb2)
        clear hb2 HB1
        have ct : w2.cell? ⟨1, 2, none⟩ = some (.int .i64 (-1)) := (HT.out _ HB2.out.below).ahead 2 (by decide)
        go_wp2_with fail
        refine (FI2.out _).mono ?_
        rintro e w3 ⟨rfl, hb3⟩
        have HB3 := Lib.hid (HB2.out.next hb3)
        clear ct hb3 HB2
        go_wp2_with fail
        exact bodyPost_ret (results_tmp2 Tryd.results54 _ _ _) rfl ⟨rfl, HB3.out.below⟩
  · have FW := Lib.hid (fun wx => moWithin_any 0 2 c wx)
    rw [Mo.wi_no hc] at FW
    rw [show Mo.toF F f c = 0 from if_neg (fun h => hc h.1)]
    rw [show Mo.go F f c = false by unfold Mo.go; rw [decide_eq_false (by omega)]; rfl]
    clear hc HT hF
    have HB0 : Hid (Bx w [] w) := Lib.hid ⟨Below.refl _ _, fun p hp => by simp at hp⟩
    go_enter Tryd.func54, Tryd.ntmps54
    go_wp2_with fail
    refine (FW.out _).mono ?_
    rintro e w1 ⟨rfl, hb1⟩
    have HB1 := Lib.hid (HB0.out.next hb1)
    clear hb1 HB0
    go_wp2_with fail
    exact bodyPost_ret (results_tmp2 Tryd.results54 _ _ _) rfl ⟨rfl, HB1.out.below⟩
set_option maxHeartbeats 4000000 in
theorem moState_any (F a b c : Int) (w : World) (hT : Tabs w) :
    Calls Tryd.prog 30 #[.int .i64 F, .agg #[.int .i64 a, .int .i64 b, .int .i64 c]] w fun ee w' => ee = .returned (.bool (Mo.isB F ⟨a, b, c⟩)) ∧ Below w.heap.size w w' := by
  have FW1 := Lib.hid (fun wx => moWithin_any 2 32 F wx)
  have FW2 := Lib.hid (fun wx => moWithin_any 0 1000000 b wx)
  by_cases h1 : 2 ≤ F ∧ F ≤ 32
  · rw [Mo.wi_of h1] at FW1
    by_cases h2 : 0 ≤ b ∧ b ≤ 1000000
    · rw [Mo.wi_of h2] at FW2
      rw [Mo.isB_go h1 h2]
      by_cases h0 : a = 0
      · subst h0
        rw [if_pos rfl]
        clear h1 h2 hT
        have HB0 := Lib.hid (bxs1 w (.cells #[.int .i64 0, .int .i64 b, .int .i64 c] 35))
        go_enter Tryd.func30, Tryd.ntmps30
        go_wp2_with fail
        refine (FW1.out _).mono ?_
        rintro e w1 ⟨rfl, hb1⟩
        have HB1 := Lib.hid (HB0.out.next hb1)
        clear hb1 HB0
        obtain ⟨c0_0, c0_1, c0_2⟩ := row3 (b := w.heap.size) HB1.out.r0
        go_wp2_with fail
        refine (FW2.out _).mono ?_
        rintro e w2 ⟨rfl, hb2⟩
        have HB2 := Lib.hid (HB1.out.next hb2)
        clear c0_0 c0_1 c0_2 hb2 HB1
        obtain ⟨c0_0, c0_1, c0_2⟩ := row3 (b := w.heap.size) HB2.out.r0
        go_wp2_with fail
        go_ret
        exact ⟨rfl, HB2.out.below⟩
      · rw [if_neg h0]
        have FT := Lib.hid (fun wx (hb : Below w.heap.size w wx) => target_any F c a wx h1 (hT.below hb))
        generalize Mo.toF F c a = tt at *
        generalize Mo.go F c a = q at *
        clear h1 h2 hT
        have HB0 := Lib.hid (bxs1 w (.cells #[.int .i64 a, .int .i64 b, .int .i64 c] 35))
        go_enter Tryd.func30, Tryd.ntmps30
        go_wp2_with fail
        refine (FW1.out _).mono ?_
        rintro e w1 ⟨rfl, hb1⟩
        have HB1 := Lib.hid (HB0.out.next hb1)
        clear hb1 HB0
        obtain ⟨c0_0, c0_1, c0_2⟩ := row3 (b := w.heap.size) HB1.out.r0
        go_wp2_with fail
        refine (FW2.out _).mono ?_
        rintro e w2 ⟨rfl, hb2⟩
        have HB2 := Lib.hid (HB1.out.next hb2)
        clear c0_0 c0_1 c0_2 hb2 HB1
        obtain ⟨c0_0, c0_1, c0_2⟩ := row3 (b := w.heap.size) HB2.out.r0
        go_wp2_with fail
        refine (FT.out _ HB2.out.below).mono ?_
        rintro e w3 ⟨rfl, hb3⟩
        have HB3 := Lib.hid (HB2.out.next hb3)
        clear c0_0 c0_1 c0_2 hb3 HB2
        obtain ⟨c0_0, c0_1, c0_2⟩ := row3 (b := w.heap.size) HB3.out.r0
        go_wp2_with fail
        go_ret
        exact ⟨rfl, HB3.out.below⟩
    · rw [Mo.wi_no h2] at FW2
      rw [Mo.isB_bad (show F < 2 ∨ 32 < F ∨ b < 0 ∨ 1000000 < b by omega)]
      clear h1 h2 hT
      have HB0 := Lib.hid (bxs1 w (.cells #[.int .i64 a, .int .i64 b, .int .i64 c] 35))
      go_enter Tryd.func30, Tryd.ntmps30
      go_wp2_with fail
      refine (FW1.out _).mono ?_
      rintro e w1 ⟨rfl, hb1⟩
      have HB1 := Lib.hid (HB0.out.next hb1)
      clear hb1 HB0
      obtain ⟨c0_0, c0_1, c0_2⟩ := row3 (b := w.heap.size) HB1.out.r0
      go_wp2_with fail
      refine (FW2.out _).mono ?_
      rintro e w2 ⟨rfl, hb2⟩
      have HB2 := Lib.hid (HB1.out.next hb2)
      clear c0_0 c0_1 c0_2 hb2 HB1
      obtain ⟨c0_0, c0_1, c0_2⟩ := row3 (b := w.heap.size) HB2.out.r0
      go_wp2_with fail
      go_ret
      exact ⟨rfl, HB2.out.below⟩
  · rw [Mo.wi_no h1] at FW1
    rw [Mo.isB_bad (show F < 2 ∨ 32 < F ∨ b < 0 ∨ 1000000 < b by omega)]
    clear h1 hT FW2
    have HB0 := Lib.hid (bxs1 w (.cells #[.int .i64 a, .int .i64 b, .int .i64 c] 35))
    go_enter Tryd.func30, Tryd.ntmps30
    go_wp2_with fail
    refine (FW1.out _).mono ?_
    rintro e w1 ⟨rfl, hb1⟩
    have HB1 := Lib.hid (HB0.out.next hb1)
    clear hb1 HB0
    obtain ⟨c0_0, c0_1, c0_2⟩ := row3 (b := w.heap.size) HB1.out.r0
    go_wp2_with fail
    go_ret
    exact ⟨rfl, HB1.out.below⟩
set_option maxHeartbeats 2000000 in
theorem moLonger_any (a b c : Int) (w : World) :
    Calls Tryd.prog 45 #[.agg #[.int .i64 a, .int .i64 b, .int .i64 c]] w fun ee w' => ee = .returned ((Mo.later ⟨a, b, c⟩).agg) ∧ Below w.heap.size w w' := by
  have FW := Lib.hid (fun wx => moWithin_any 0 999999 b wx)
  by_cases h1 : 0 ≤ b ∧ b ≤ 999999
  · rw [Mo.wi_of h1] at FW
    rw [show Mo.later ⟨a, b, c⟩ = ⟨a, b + 1, c⟩ from if_pos (by simp only; omega)]
    have hw : IntKind.i64.wrap (b + 1) = b + 1 := by rw [IntKind.wrap_i64]; omega
    clear h1
    have HB0 := Lib.hid (bxs2 w (.cells #[.int .i64 a, .int .i64 b, .int .i64 c] 35) (.cells #[.int .i64 0, .int .i64 0, .int .i64 0] 35))
    go_enter Tryd.func45, Tryd.ntmps45
    go_wp2_with fail
    refine (FW.out _).mono ?_
    rintro e w1 ⟨rfl, hb1⟩
    have HB1 := Lib.hid (HB0.out.next hb1)
    clear hb1 HB0
    obtain ⟨c0_0, c0_1, c0_2⟩ := row3 (b := w.heap.size) HB1.out.r0
    obtain ⟨c1_0, c1_1, c1_2⟩ := row3 (b := w.heap.size + 1) HB1.out.r1
    go_wp2_with (with_reducible show wpList _ _ _ (Oper.mk _ (.store 3 _ _) _ _ _ _ :: _) _ _; refine Hid.out ?_)
    refine Lib.hid ?_
    refine wpList_putCell rfl 3 _ _ rfl (w.heap.size) 1 (.int .i64 (b + 1)) _ _ 35 rfl rfl HB1.out.r0 (by kernel_rfl) (by simp) rfl rfl rfl ?_
    intro w2 hr2 hg2
    have HB2 : Hid (Bx w [(w.heap.size, .cells #[.int .i64 a, .int .i64 (b + 1), .int .i64 c] 35 (0, 0)), (w.heap.size + 1, .cells #[.int .i64 0, .int .i64 0, .int .i64 0] 35 (0, 0))] w2) := Lib.hid (HB1.out.put (by omega) hg2.out hr2.out (by simp only [List.mem_cons, List.not_mem_nil, or_false]; rintro p (rfl | rfl) <;> simp <;> omega))
    clear c0_0 c0_1 c0_2 c1_0 c1_1 c1_2 hr2 hg2 HB1
    obtain ⟨c0_0, c0_1, c0_2⟩ := row3 (b := w.heap.size) HB2.out.r0
    obtain ⟨c1_0, c1_1, c1_2⟩ := row3 (b := w.heap.size + 1) HB2.out.r1
    go_wp2_with (with_reducible show wpList _ _ _ (Oper.mk _ (.store 35 _ _) _ _ _ _ :: _) _ _; refine Hid.out ?_)
    refine Lib.hid ?_
    refine wpList_put rfl 35 _ _ rfl (w.heap.size + 1) #[.int .i64 a, .int .i64 (b + 1), .int .i64 c] _ 35 rfl rfl HB2.out.r1 (by kernel_rfl) rfl (by kernel_rfl) ?_
    intro w3 hr3 hg3
    have HB3 : Hid (Bx w [(w.heap.size, .cells #[.int .i64 a, .int .i64 (b + 1), .int .i64 c] 35 (0, 0)), (w.heap.size + 1, .cells #[.int .i64 a, .int .i64 (b + 1), .int .i64 c] 35 (0, 0))] w3) := Lib.hid (HB2.out.put (by omega) hg3.out hr3.out (by simp only [List.mem_cons, List.not_mem_nil, or_false]; rintro p (rfl | rfl) <;> simp <;> omega))
    clear c0_0 c0_1 c0_2 c1_0 c1_1 c1_2 hr3 hg3 HB2
    go_wp2_with fail
    exact bodyPost_ret (results_cell_row Tryd.results45 _ _ _ _ _ (0, 0) _ rfl (HB3.out.r1) Tryd.underlying35 rfl (by kernel_rfl)) rfl (⟨rfl, HB3.out.below⟩)
  · rw [Mo.wi_no h1] at FW
    rw [show Mo.later ⟨a, b, c⟩ = ⟨a, b, c⟩ from if_neg (by simp only; omega)]
    clear h1
    have HB0 := Lib.hid (bxs2 w (.cells #[.int .i64 a, .int .i64 b, .int .i64 c] 35) (.cells #[.int .i64 0, .int .i64 0, .int .i64 0] 35))
    go_enter Tryd.func45, Tryd.ntmps45
    go_wp2_with fail
    refine (FW.out _).mono ?_
    rintro e w1 ⟨rfl, hb1⟩
    have HB1 := Lib.hid (HB0.out.next hb1)
    clear hb1 HB0
    obtain ⟨c0_0, c0_1, c0_2⟩ := row3 (b := w.heap.size) HB1.out.r0
    obtain ⟨c1_0, c1_1, c1_2⟩ := row3 (b := w.heap.size + 1) HB1.out.r1
    go_wp2_with (with_reducible show wpList _ _ _ (Oper.mk _ (.store 35 _ _) _ _ _ _ :: _) _ _; refine Hid.out ?_)
    refine Lib.hid ?_
    refine wpList_put rfl 35 _ _ rfl (w.heap.size + 1) #[.int .i64 a, .int .i64 b, .int .i64 c] _ 35 rfl rfl HB1.out.r1 (by kernel_rfl) rfl (by kernel_rfl) ?_
    intro w2 hr2 hg2
    have HB2 : Hid (Bx w [(w.heap.size, .cells #[.int .i64 a, .int .i64 b, .int .i64 c] 35 (0, 0)), (w.heap.size + 1, .cells #[.int .i64 a, .int .i64 b, .int .i64 c] 35 (0, 0))] w2) := Lib.hid (HB1.out.put (by omega) hg2.out hr2.out (by simp only [List.mem_cons, List.not_mem_nil, or_false]; rintro p (rfl | rfl) <;> simp <;> omega))
    clear c0_0 c0_1 c0_2 c1_0 c1_1 c1_2 hr2 hg2 HB1
    go_wp2_with fail
    exact bodyPost_ret (results_cell_row Tryd.results45 _ _ _ _ _ (0, 0) _ rfl (HB2.out.r1) Tryd.underlying35 rfl (by kernel_rfl)) rfl (⟨rfl, HB2.out.below⟩)
set_option maxHeartbeats 2000000 in
theorem moBegin_any (F f c : Int) (w : World) (hF : 2 ≤ F ∧ F ≤ 32) (hT : Tabs w) :
    Calls Tryd.prog 67 #[.int .i64 F, .int .i64 f, .int .i64 c] w fun ee w' => ee = .returned ((if Mo.go F f c = true then (⟨c, 0, f⟩ : Mo) else Mo.zero).agg) ∧ Below w.heap.size w w' := by
  have FT := Lib.hid (fun wx (hb : Below w.heap.size w wx) => target_any F f c wx hF (hT.below hb))
  generalize Mo.toF F f c = tt at *
  generalize Mo.go F f c = q at *
  clear hF hT
  cases q
  · rw [if_neg (by decide)]
    have HB0 := Lib.hid (bxs1 w (.cells #[.int .i64 0, .int .i64 0, .int .i64 0] 35))
    go_enter Tryd.func67, Tryd.ntmps67
    go_wp2_with fail
    refine (FT.out _ HB0.out.below).mono ?_
    rintro e w1 ⟨rfl, hb1⟩
    have HB1 := Lib.hid (HB0.out.next hb1)
    clear hb1 HB0
    obtain ⟨c0_0, c0_1, c0_2⟩ := row3 (b := w.heap.size) HB1.out.r0
    go_wp2_with (with_reducible show wpList _ _ _ (Oper.mk _ (.store 35 _ _) _ _ _ _ :: _) _ _; refine Hid.out ?_)
    refine Lib.hid ?_
    refine wpList_put rfl 35 _ _ rfl (w.heap.size) #[.int .i64 0, .int .i64 0, .int .i64 0] _ 35 rfl rfl HB1.out.r0 (by kernel_rfl) rfl (by kernel_rfl) ?_
    intro w2 hr2 hg2
    have HB2 : Hid (Bx w [(w.heap.size, .cells #[.int .i64 0, .int .i64 0, .int .i64 0] 35 (0, 0))] w2) := Lib.hid (HB1.out.put (by omega) hg2.out hr2.out (by simp only [List.mem_cons, List.not_mem_nil, or_false]; rintro p rfl <;> simp <;> omega))
    clear c0_0 c0_1 c0_2 hr2 hg2 HB1
    go_wp2_with fail
    exact bodyPost_ret (results_cell_row Tryd.results67 _ _ _ _ _ (0, 0) _ rfl (HB2.out.r0) Tryd.underlying35 rfl (by kernel_rfl)) rfl (⟨rfl, HB2.out.below⟩)
  · rw [if_pos rfl]
    have HB0 := Lib.hid (bxs1 w (.cells #[.int .i64 0, .int .i64 0, .int .i64 0] 35))
    go_enter Tryd.func67, Tryd.ntmps67
    go_wp2_with fail
    refine (FT.out _ HB0.out.below).mono ?_
    rintro e w1 ⟨rfl, hb1⟩
    have HB1 := Lib.hid (HB0.out.next hb1)
    clear hb1 HB0
    obtain ⟨c0_0, c0_1, c0_2⟩ := row3 (b := w.heap.size) HB1.out.r0
    go_wp2_with (with_reducible show wpList _ _ _ (Oper.mk _ (.store 35 _ _) _ _ _ _ :: _) _ _; refine Hid.out ?_)
    refine Lib.hid ?_
    refine wpList_put rfl 35 _ _ rfl (w.heap.size) #[.int .i64 c, .int .i64 0, .int .i64 f] _ 35 rfl rfl HB1.out.r0 (by kernel_rfl) rfl (by kernel_rfl) ?_
    intro w2 hr2 hg2
    have HB2 : Hid (Bx w [(w.heap.size, .cells #[.int .i64 c, .int .i64 0, .int .i64 f] 35 (0, 0))] w2) := Lib.hid (HB1.out.put (by omega) hg2.out hr2.out (by simp only [List.mem_cons, List.not_mem_nil, or_false]; rintro p rfl <;> simp <;> omega))
    clear c0_0 c0_1 c0_2 hr2 hg2 HB1
    go_wp2_with fail
    exact bodyPost_ret (results_cell_row Tryd.results67 _ _ _ _ _ (0, 0) _ rfl (HB2.out.r0) Tryd.underlying35 rfl (by kernel_rfl)) rfl (⟨rfl, HB2.out.below⟩)
set_option maxHeartbeats 2000000 in
theorem moLate_any (t0 t1 t2 t3 t4 t5 t6 t7 t8 a b c : Int) (w : World) :
    Calls Tryd.prog 42 #[.agg #[.int .i64 t0, .int .i64 t1, .int .i64 t2, .int .i64 t3, .int .i64 t4, .int .i64 t5, .int .i64 t6, .int .i64 t7, .int .i64 t8], .agg #[.int .i64 a, .int .i64 b, .int .i64 c]] w fun ee w' => ee = .returned (.bool (Mo.late t4 ⟨a, b, c⟩)) ∧ Below w.heap.size w w' := by
  rw [show Mo.late t4 ⟨a, b, c⟩ = decide (t4 < b) from rfl]
  go_enter Tryd.func42, Tryd.ntmps42
  go_wp2_with fail
  go_ret
  exact ⟨rfl, by go_grown⟩
set_option maxHeartbeats 2000000 in
theorem moSkip_any (a b c : Int) (w : World) :
    Calls Tryd.prog 21 #[.agg #[.int .i64 a, .int .i64 b, .int .i64 c]] w fun ee w' => ee = .returned ((Mo.skipF ⟨a, b, c⟩).agg) ∧ Below w.heap.size w w' := by
  have FL := Lib.hid (fun wx => moLonger_any a b c wx)
  by_cases h0 : a = 0
  · by_cases h1 : b = 0
    · rw [show Mo.skipF ⟨a, b, c⟩ = ⟨a, b, c⟩ from if_neg (fun h => h.elim (fun h => h h0) (fun h => h h1))]
      subst h0 h1
      have HB0 := Lib.hid (bxs2 w (.cells #[.int .i64 0, .int .i64 0, .int .i64 c] 35) (.cells #[.int .i64 0, .int .i64 0, .int .i64 0] 35))
      go_enter Tryd.func21, Tryd.ntmps21
      go_wp2_with (with_reducible show wpList _ _ _ (Oper.mk _ (.store 35 _ _) _ _ _ _ :: _) _ _; refine Hid.out ?_)
      refine Lib.hid ?_
      refine wpList_put rfl 35 _ _ rfl (w.heap.size + 1) #[.int .i64 0, .int .i64 0, .int .i64 c] _ 35 rfl rfl HB0.out.r1 (by kernel_rfl) rfl (by kernel_rfl) ?_
      intro w1 hr1 hg1
      have HB1 : Hid (Bx w [(w.heap.size, .cells #[.int .i64 0, .int .i64 0, .int .i64 c] 35 (0, 0)), (w.heap.size + 1, .cells #[.int .i64 0, .int .i64 0, .int .i64 c] 35 (0, 0))] w1) := Lib.hid (HB0.out.put (by omega) hg1.out hr1.out (by simp only [List.mem_cons, List.not_mem_nil, or_false]; rintro p (rfl | rfl) <;> simp <;> omega))
      clear hr1 hg1 HB0
      go_wp2_with fail
      exact bodyPost_ret (results_cell_row Tryd.results21 _ _ _ _ _ (0, 0) _ rfl (HB1.out.r1) Tryd.underlying35 rfl (by kernel_rfl)) rfl (⟨rfl, HB1.out.below⟩)
    · rw [show Mo.skipF ⟨a, b, c⟩ = Mo.later ⟨a, b, c⟩ from if_pos (.inr h1)]
      subst h0
      generalize Mo.later ⟨0, b, c⟩ = l at *
      obtain ⟨l1, l2, l3⟩ := l
      simp only [Mo.agg] at FL
      have HB0 := Lib.hid (bxs2 w (.cells #[.int .i64 0, .int .i64 b, .int .i64 c] 35) (.cells #[.int .i64 0, .int .i64 0, .int .i64 0] 35))
      go_enter Tryd.func21, Tryd.ntmps21
      go_wp2_with fail
      refine (FL.out _).mono ?_
      rintro e w1 ⟨rfl, hb1⟩
      have HB1 := Lib.hid (HB0.out.next hb1)
      clear hb1 HB0
      go_wp2_with (with_reducible show wpList _ _ _ (Oper.mk _ (.store 35 _ _) _ _ _ _ :: _) _ _; refine Hid.out ?_)
      refine Lib.hid ?_
      refine wpList_put rfl 35 _ _ rfl (w.heap.size + 1) #[.int .i64 l1, .int .i64 l2, .int .i64 l3] _ 35 rfl rfl HB1.out.r1 (by kernel_rfl) rfl (by kernel_rfl) ?_
      intro w2 hr2 hg2
      have HB2 : Hid (Bx w [(w.heap.size, .cells #[.int .i64 0, .int .i64 b, .int .i64 c] 35 (0, 0)), (w.heap.size + 1, .cells #[.int .i64 l1, .int .i64 l2, .int .i64 l3] 35 (0, 0))] w2) := Lib.hid (HB1.out.put (by omega) hg2.out hr2.out (by simp only [List.mem_cons, List.not_mem_nil, or_false]; rintro p (rfl | rfl) <;> simp <;> omega))
      clear hr2 hg2 HB1
      go_wp2_with fail
      exact bodyPost_ret (results_cell_row Tryd.results21 _ _ _ _ _ (0, 0) _ rfl (HB2.out.r1) Tryd.underlying35 rfl (by kernel_rfl)) rfl (⟨rfl, HB2.out.below⟩)
  · rw [show Mo.skipF ⟨a, b, c⟩ = Mo.later ⟨a, b, c⟩ from if_pos (.inl h0)]
    generalize Mo.later ⟨a, b, c⟩ = l at *
    obtain ⟨l1, l2, l3⟩ := l
    simp only [Mo.agg] at FL
    have HB0 := Lib.hid (bxs2 w (.cells #[.int .i64 a, .int .i64 b, .int .i64 c] 35) (.cells #[.int .i64 0, .int .i64 0, .int .i64 0] 35))
    go_enter Tryd.func21, Tryd.ntmps21
    go_wp2_with fail
    refine (FL.out _).mono ?_
    rintro e w1 ⟨rfl, hb1⟩
    have HB1 := Lib.hid (HB0.out.next hb1)
    clear hb1 HB0
    go_wp2_with (with_reducible show wpList _ _ _ (Oper.mk _ (.store 35 _ _) _ _ _ _ :: _) _ _; refine Hid.out ?_)
    refine Lib.hid ?_
    refine wpList_put rfl 35 _ _ rfl (w.heap.size + 1) #[.int .i64 l1, .int .i64 l2, .int .i64 l3] _ 35 rfl rfl HB1.out.r1 (by kernel_rfl) rfl (by kernel_rfl) ?_
    intro w2 hr2 hg2
    have HB2 : Hid (Bx w [(w.heap.size, .cells #[.int .i64 a, .int .i64 b, .int .i64 c] 35 (0, 0)), (w.heap.size + 1, .cells #[.int .i64 l1, .int .i64 l2, .int .i64 l3] 35 (0, 0))] w2) := Lib.hid (HB1.out.put (by omega) hg2.out hr2.out (by simp only [List.mem_cons, List.not_mem_nil, or_false]; rintro p (rfl | rfl) <;> simp <;> omega))
    clear hr2 hg2 HB1
    go_wp2_with fail
    exact bodyPost_ret (results_cell_row Tryd.results21 _ _ _ _ _ (0, 0) _ rfl (HB2.out.r1) Tryd.underlying35 rfl (by kernel_rfl)) rfl (⟨rfl, HB2.out.below⟩)
end Go.Proofs.YtnjcegkefjdgdaaDoor
