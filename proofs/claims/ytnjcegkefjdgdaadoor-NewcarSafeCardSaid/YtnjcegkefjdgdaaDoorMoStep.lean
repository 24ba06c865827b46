/- The program's Step of stage 13. No statement of the seat is proved here. -/
import Derived.Test.YtnjcegkefjdgdaaDoorMoLeaf
namespace Go.Proofs.YtnjcegkefjdgdaaDoor
open Go.RowKit
set_option maxRecDepth 4000

set_option maxHeartbeats 8000000 in
theorem moStep_any (F a b c fl : Int) (lv : Bool) (f2 : Int) (f3 : Bool) (k : Int) (w : World) (hT : Tabs w) :
    Calls Tryd.prog 56 #[.int .i64 F, .agg #[.int .i64 a, .int .i64 b, .int .i64 c], .agg #[.int .i64 fl, .bool lv, .int .i64 f2, .bool f3], .int .i64 k] w fun ee w' => ee = .returned (.tuple #[(Mo.stepF F ⟨a, b, c⟩ fl lv k).1.agg, .int .i64 (Mo.stepF F ⟨a, b, c⟩ fl lv k).2.1, .bool (Mo.stepF F ⟨a, b, c⟩ fl lv k).2.2]) ∧ Below w.heap.size w w' := by
  have FI := Lib.hid (fun wx (hb : Below w.heap.size w wx) => moState_any F a b c wx (hT.below hb))
  cases hB : Mo.isB F ⟨a, b, c⟩
  · rw [hB] at FI
    rw [show Mo.stepF F ⟨a, b, c⟩ fl lv k = (Mo.zero, 0, false) from if_pos (by rw [hB]; rfl)]
    clear hB hT
    have HB0 := Lib.hid (bxs3 w (.cells #[.int .i64 a, .int .i64 b, .int .i64 c] 35) (.cells #[.int .i64 fl, .bool lv, .int .i64 f2, .bool f3] 40) (.cells #[.int .i64 0, .int .i64 0, .int .i64 0] 35))
    go_enter Tryd.func56, Tryd.ntmps56
    go_wp2_with fail
    refine (FI.out _ HB0.out.below).mono ?_
    rintro e w1 ⟨rfl, hb1⟩
    have HB1 := Lib.hid (HB0.out.next hb1)
    clear hb1 HB0
    obtain ⟨c0_0, c0_1, c0_2⟩ := row3 (b := w.heap.size) HB1.out.r0
    obtain ⟨c1_0, c1_1, -⟩ := row4 (b := w.heap.size + 1) HB1.out.r1
    go_wp2_with (with_reducible show wpList _ _ _ (Oper.mk _ (.store 35 _ _) _ _ _ _ :: _) _ _; refine Hid.out ?_)
    refine Lib.hid ?_
    refine wpList_put rfl 35 _ _ rfl (w.heap.size + 2) #[.int .i64 0, .int .i64 0, .int .i64 0] _ 35 rfl rfl HB1.out.r2 (by kernel_rfl) rfl (by kernel_rfl) ?_
    intro w2 hr2 hg2
    have HB2 : Hid (Bx w [(w.heap.size, .cells #[.int .i64 a, .int .i64 b, .int .i64 c] 35 (0, 0)), (w.heap.size + 1, .cells #[.int .i64 fl, .bool lv, .int .i64 f2, .bool f3] 40 (0, 0)), (w.heap.size + 2, .cells #[.int .i64 0, .int .i64 0, .int .i64 0] 35 (0, 0))] w2) := Lib.hid (HB1.out.put (by omega) hg2.out hr2.out (by simp only [List.mem_cons, List.not_mem_nil, or_false]; rintro p (rfl | rfl | rfl) <;> simp <;> omega))
    clear c0_0 c0_1 c0_2 c1_0 c1_1 hr2 hg2 HB1
    go_wp2_with fail
    exact bodyPost_ret (results_row_tmp2 Tryd.results56 _ _ _ _ _ (0, 0) _ rfl HB2.out.r2 Tryd.underlying35 rfl (by kernel_rfl)) rfl (⟨rfl, HB2.out.below⟩)
  · have hr := Mo.isB_range hB
    rw [hB] at FI
    have FF := Lib.hid (fun wx => isFloor_any F fl wx hr.1)
    cases hfl : Mo.isF F fl
    · rw [hfl] at FF
      rw [show Mo.stepF F ⟨a, b, c⟩ fl lv k = (Mo.zero, 0, false) from if_pos (by rw [hB, hfl]; rfl)]
      clear hB hfl hr hT
      have HB0 := Lib.hid (bxs3 w (.cells #[.int .i64 a, .int .i64 b, .int .i64 c] 35) (.cells #[.int .i64 fl, .bool lv, .int .i64 f2, .bool f3] 40) (.cells #[.int .i64 0, .int .i64 0, .int .i64 0] 35))
      go_enter Tryd.func56, Tryd.ntmps56
      go_wp2_with fail
      refine (FI.out _ HB0.out.below).mono ?_
      rintro e w1 ⟨rfl, hb1⟩
      have HB1 := Lib.hid (HB0.out.next hb1)
      clear hb1 HB0
      obtain ⟨c0_0, c0_1, c0_2⟩ := row3 (b := w.heap.size) HB1.out.r0
      obtain ⟨c1_0, c1_1, -⟩ := row4 (b := w.heap.size + 1) HB1.out.r1
      go_wp2_with fail
      refine (FF.out _).mono ?_
      rintro e w2 ⟨rfl, hb2⟩
      have HB2 := Lib.hid (HB1.out.next hb2)
      clear c0_0 c0_1 c0_2 c1_0 c1_1 hb2 HB1
      go_wp2_with (with_reducible show wpList _ _ _ (Oper.mk _ (.store 35 _ _) _ _ _ _ :: _) _ _; refine Hid.out ?_)
      refine Lib.hid ?_
      refine wpList_put rfl 35 _ _ rfl (w.heap.size + 2) #[.int .i64 0, .int .i64 0, .int .i64 0] _ 35 rfl rfl HB2.out.r2 (by kernel_rfl) rfl (by kernel_rfl) ?_
      intro w3 hr3 hg3
      have HB3 : Hid (Bx w [(w.heap.size, .cells #[.int .i64 a, .int .i64 b, .int .i64 c] 35 (0, 0)), (w.heap.size + 1, .cells #[.int .i64 fl, .bool lv, .int .i64 f2, .bool f3] 40 (0, 0)), (w.heap.size + 2, .cells #[.int .i64 0, .int .i64 0, .int .i64 0] 35 (0, 0))] w3) := Lib.hid (HB2.out.put (by omega) hg3.out hr3.out (by simp only [List.mem_cons, List.not_mem_nil, or_false]; rintro p (rfl | rfl | rfl) <;> simp <;> omega))
      clear hr3 hg3 HB2
      go_wp2_with fail
      exact bodyPost_ret (results_row_tmp2 Tryd.results56 _ _ _ _ _ (0, 0) _ rfl HB3.out.r2 Tryd.underlying35 rfl (by kernel_rfl)) rfl (⟨rfl, HB3.out.below⟩)
    · rw [hfl] at FF
      have hst : Mo.stepF F ⟨a, b, c⟩ fl lv k = (if a ≠ 0 then (if lv = true ∧ fl = Mo.tgt ⟨a, b, c⟩ then (Mo.zero, 0, true) else (Mo.later ⟨a, b, c⟩, a, false)) else if lv = false then (Mo.later ⟨a, b, c⟩, 0, false) else if k ≠ 0 ∧ Mo.isB F ⟨k, 0, fl⟩ = true then (⟨k, 0, fl⟩, k, false) else (Mo.zero, 0, false)) := by
        unfold Mo.stepF
        rw [hB, hfl]
        rfl
      rw [hst]
      clear hst
      obtain ⟨hF, hb, hac⟩ := hr
      have FT := Lib.hid (fun wx (hb : Below w.heap.size w wx) => target_any F c a wx hF (hT.below hb))
      have hgo := Mo.isB_go (c := c) hF hb (a := a)
      rw [hB] at hgo
      have FL := Lib.hid (fun wx => moLonger_any a b c wx)
      clear hB hfl
      by_cases h0 : a = 0
      · subst h0
        obtain rfl : c = 0 := by rcases hac with h | h <;> omega
        rw [if_neg (by simp)]
        rw [Mo.go_zero] at FT
        generalize Mo.toF F 0 0 = tt at *
        clear hgo
        clear hac
        cases lv
        · rw [if_pos rfl]
          have hl1 : (Mo.later ⟨0, b, 0⟩).c = 0 := by unfold Mo.later; split <;> rfl
          generalize Mo.later ⟨0, b, 0⟩ = l at *
          obtain ⟨l1, l2, l3⟩ := l
          simp only at hl1
          subst hl1
          simp only [Mo.agg] at FL
          clear hF hb hT
          have HB0 := Lib.hid (bxs3 w (.cells #[.int .i64 0, .int .i64 b, .int .i64 0] 35) (.cells #[.int .i64 fl, .bool false, .int .i64 f2, .bool f3] 40) (.cells #[.int .i64 0, .int .i64 0, .int .i64 0] 35))
          go_enter Tryd.func56, Tryd.ntmps56
          go_wp2_with fail
          refine (FI.out _ HB0.out.below).mono ?_
          rintro e w1 ⟨rfl, hb1⟩
          have HB1 := Lib.hid (HB0.out.next hb1)
          clear hb1 HB0
          obtain ⟨c0_0, c0_1, c0_2⟩ := row3 (b := w.heap.size) HB1.out.r0
          obtain ⟨c1_0, c1_1, -⟩ := row4 (b := w.heap.size + 1) HB1.out.r1
          go_wp2_with fail
          refine (FF.out _).mono ?_
          rintro e w2 ⟨rfl, hb2⟩
          have HB2 := Lib.hid (HB1.out.next hb2)
          clear c0_0 c0_1 c0_2 c1_0 c1_1 hb2 HB1
          obtain ⟨c0_0, c0_1, c0_2⟩ := row3 (b := w.heap.size) HB2.out.r0
          obtain ⟨c1_0, c1_1, -⟩ := row4 (b := w.heap.size + 1) HB2.out.r1
          go_wp2_with fail
          refine (FT.out _ HB2.out.below).mono ?_
          rintro e w3 ⟨rfl, hb3⟩
          have HB3 := Lib.hid (HB2.out.next hb3)
          clear c0_0 c0_1 c0_2 c1_0 c1_1 hb3 HB2
          obtain ⟨c0_0, c0_1, c0_2⟩ := row3 (b := w.heap.size) HB3.out.r0
          obtain ⟨c1_0, c1_1, -⟩ := row4 (b := w.heap.size + 1) HB3.out.r1
          go_wp2_with fail
          refine (FL.out _).mono ?_
          rintro e w4 ⟨rfl, hb4⟩
          have HB4 := Lib.hid (HB3.out.next hb4)
          clear c0_0 c0_1 c0_2 c1_0 c1_1 hb4 HB3
          obtain ⟨c0_0, c0_1, c0_2⟩ := row3 (b := w.heap.size) HB4.out.r0
          obtain ⟨c1_0, c1_1, -⟩ := row4 (b := w.heap.size + 1) HB4.out.r1
          go_wp2_with (with_reducible show wpList _ _ _ (Oper.mk _ (.store 35 _ _) _ _ _ _ :: _) _ _; refine Hid.out ?_)
          refine Lib.hid ?_
          refine wpList_put rfl 35 _ _ rfl (w.heap.size) #[.int .i64 0, .int .i64 l2, .int .i64 l3] _ 35 rfl rfl HB4.out.r0 (by kernel_rfl) rfl (by kernel_rfl) ?_
          intro w5 hr5 hg5
          have HB5 : Hid (Bx w [(w.heap.size, .cells #[.int .i64 0, .int .i64 l2, .int .i64 l3] 35 (0, 0)), (w.heap.size + 1, .cells #[.int .i64 fl, .bool false, .int .i64 f2, .bool f3] 40 (0, 0)), (w.heap.size + 2, .cells #[.int .i64 0, .int .i64 0, .int .i64 0] 35 (0, 0))] w5) := Lib.hid (HB4.out.put (by omega) hg5.out hr5.out (by simp only [List.mem_cons, List.not_mem_nil, or_false]; rintro p (rfl | rfl | rfl) <;> simp <;> omega))
          clear c0_0 c0_1 c0_2 c1_0 c1_1 hr5 hg5 HB4
          obtain ⟨c0_0, c0_1, c0_2⟩ := row3 (b := w.heap.size) HB5.out.r0
          obtain ⟨c1_0, c1_1, -⟩ := row4 (b := w.heap.size + 1) HB5.out.r1
          go_wp2_with fail
          have q0 : w.heap.size < w5.heap.size := (Array.getElem?_eq_some_iff.1 HB5.out.r0).1
          have q1 : w.heap.size + 1 < w5.heap.size := (Array.getElem?_eq_some_iff.1 HB5.out.r1).1
          have q2 : w.heap.size + 2 < w5.heap.size := (Array.getElem?_eq_some_iff.1 HB5.out.r2).1
          refine Chain.chain (fun p wx => Put (w5) (w.heap.size + 2) (.cells (if p = 0 then #[.int .i64 0, .int .i64 0, .int .i64 0] else #[.int .i64 0, .int .i64 l2, .int .i64 l3]) 35 (0, 0)) wx) (fun _ _ => False) [3] (by kernel_rfl) (by kernel_rfl) (fun _ _ _ _ h => h.elim) ((Put.start HB5.out.r2).drew) ?_
          iterate 3 (first
              | (apply Chain.walk_quiet (by rfl) (by decide)
                 (intro p wx hp hwn hx K hK
                  obtain ⟨z0_0, z0_1, z0_2⟩ := row3 (b := w.heap.size) ((hx.other (w.heap.size) q0 (by omega)).trans HB5.out.r0)
                  first
                    | (go_simp
                       first
                        | (go_at_K; exact hK _ hx)))
                 exact ⟨_, rfl⟩)
              | (refine Chain.walk_no (by rfl) (by decide) ?_; simp only [Act.put, List.setIfInBounds_toArray, List.set_cons_succ, List.set_cons_zero]))
          apply Chain.walk_turn 0 (by rfl) (by rfl)
          · intro wx hx K hK
            exact Put.store 35 _ _ rfl rfl rfl hx (by kernel_rfl) rfl (by kernel_rfl) (fun w2 h => hK w2 h)
          · exact ⟨undef, rfl⟩
          iterate 2 (
                 apply Chain.walk_quiet (by rfl) (by decide)
                 (intro p wx hp hwn hx K hK
                  go_simp
                  (go_at_K; exact hK _ hx))
                 exact ⟨_, rfl⟩)
          refine Chain.walk_nil (fun w6 hp6 => ?_)
          replace hp6 : Put (w5) (w.heap.size + 2) (.cells #[.int .i64 0, .int .i64 l2, .int .i64 l3] 35 (0, 0)) w6 := hp6
          try simp only [Act.put, List.setIfInBounds_toArray, List.set_cons_succ, List.set_cons_zero]
          have HB6 : Hid (Bx w [(w.heap.size, .cells #[.int .i64 0, .int .i64 l2, .int .i64 l3] 35 (0, 0)), (w.heap.size + 1, .cells #[.int .i64 fl, .bool false, .int .i64 f2, .bool f3] 40 (0, 0)), (w.heap.size + 2, .cells #[.int .i64 0, .int .i64 l2, .int .i64 l3] 35 (0, 0))] w6) := Lib.hid (HB5.out.ofPut (by omega) hp6 (by simp only [List.mem_cons, List.not_mem_nil, or_false]; rintro p (rfl | rfl | rfl) <;> simp <;> omega))
          clear c0_0 c0_1 c0_2 c1_0 c1_1 hp6 HB5 q0 q1 q2
          go_wp2_with fail
          exact bodyPost_ret (results_row_tmp2 Tryd.results56 _ _ _ _ _ (0, 0) _ rfl HB6.out.r2 Tryd.underlying35 rfl (by kernel_rfl)) rfl (⟨rfl, HB6.out.below⟩)
        · rw [if_neg (by decide)]
          have FB := Lib.hid (fun wx (hb : Below w.heap.size w wx) => moBegin_any F fl k wx hF (hT.below hb))
          have hres : (if k ≠ 0 ∧ Mo.isB F ⟨k, 0, fl⟩ = true then ((⟨k, 0, fl⟩ : Mo), k, false) else (Mo.zero, 0, false)) = ((if Mo.go F fl k = true then (⟨k, 0, fl⟩ : Mo) else Mo.zero), (if Mo.go F fl k = true then (⟨k, 0, fl⟩ : Mo) else Mo.zero).c, false) := by
            by_cases hk : k = 0
            · subst hk; rw [if_neg (fun h => h.1 rfl), Mo.go_zero]; rfl
            · rw [Mo.go_isB hF hk]
              by_cases hg : Mo.go F fl k = true
              · rw [if_pos ⟨hk, hg⟩, if_pos hg]
              · rw [if_neg (fun h => hg h.2), if_neg hg]; rfl
          rw [hres]
          clear hres
          generalize (if Mo.go F fl k = true then (⟨k, 0, fl⟩ : Mo) else Mo.zero) = l at *
          obtain ⟨l1, l2, l3⟩ := l
          simp only [Mo.agg] at FB
          simp only
          clear hF hb hT FL
          have HB0 := Lib.hid (bxs3 w (.cells #[.int .i64 0, .int .i64 b, .int .i64 0] 35) (.cells #[.int .i64 fl, .bool true, .int .i64 f2, .bool f3] 40) (.cells #[.int .i64 0, .int .i64 0, .int .i64 0] 35))
          go_enter Tryd.func56, Tryd.ntmps56
          go_wp2_with fail
          refine (FI.out _ HB0.out.below).mono ?_
          rintro e w1 ⟨rfl, hb1⟩
          have HB1 := Lib.hid (HB0.out.next hb1)
          clear hb1 HB0
          obtain ⟨c0_0, c0_1, c0_2⟩ := row3 (b := w.heap.size) HB1.out.r0
          obtain ⟨c1_0, c1_1, -⟩ := row4 (b := w.heap.size + 1) HB1.out.r1
          go_wp2_with fail
          refine (FF.out _).mono ?_
          rintro e w2 ⟨rfl, hb2⟩
          have HB2 := Lib.hid (HB1.out.next hb2)
          clear c0_0 c0_1 c0_2 c1_0 c1_1 hb2 HB1
          obtain ⟨c0_0, c0_1, c0_2⟩ := row3 (b := w.heap.size) HB2.out.r0
          obtain ⟨c1_0, c1_1, -⟩ := row4 (b := w.heap.size + 1) HB2.out.r1
          go_wp2_with fail
          refine (FT.out _ HB2.out.below).mono ?_
          rintro e w3 ⟨rfl, hb3⟩
          have HB3 := Lib.hid (HB2.out.next hb3)
          clear c0_0 c0_1 c0_2 c1_0 c1_1 hb3 HB2
          obtain ⟨c0_0, c0_1, c0_2⟩ := row3 (b := w.heap.size) HB3.out.r0
          obtain ⟨c1_0, c1_1, -⟩ := row4 (b := w.heap.size + 1) HB3.out.r1
          go_wp2_with fail
          refine (FB.out _ HB3.out.below).mono ?_
          rintro e w4 ⟨rfl, hb4⟩
          have HB4 := Lib.hid (HB3.out.next hb4)
          clear c0_0 c0_1 c0_2 c1_0 c1_1 hb4 HB3
          obtain ⟨c0_0, c0_1, c0_2⟩ := row3 (b := w.heap.size) HB4.out.r0
          obtain ⟨c1_0, c1_1, -⟩ := row4 (b := w.heap.size + 1) HB4.out.r1
          go_wp2_with (with_reducible show wpList _ _ _ (Oper.mk _ (.store 35 _ _) _ _ _ _ :: _) _ _; refine Hid.out ?_)
          refine Lib.hid ?_
          refine wpList_put rfl 35 _ _ rfl (w.heap.size) #[.int .i64 l1, .int .i64 l2, .int .i64 l3] _ 35 rfl rfl HB4.out.r0 (by kernel_rfl) rfl (by kernel_rfl) ?_
          intro w5 hr5 hg5
          have HB5 : Hid (Bx w [(w.heap.size, .cells #[.int .i64 l1, .int .i64 l2, .int .i64 l3] 35 (0, 0)), (w.heap.size + 1, .cells #[.int .i64 fl, .bool true, .int .i64 f2, .bool f3] 40 (0, 0)), (w.heap.size + 2, .cells #[.int .i64 0, .int .i64 0, .int .i64 0] 35 (0, 0))] w5) := Lib.hid (HB4.out.put (by omega) hg5.out hr5.out (by simp only [List.mem_cons, List.not_mem_nil, or_false]; rintro p (rfl | rfl | rfl) <;> simp <;> omega))
          clear c0_0 c0_1 c0_2 c1_0 c1_1 hr5 hg5 HB4
          obtain ⟨c0_0, c0_1, c0_2⟩ := row3 (b := w.heap.size) HB5.out.r0
          obtain ⟨c1_0, c1_1, -⟩ := row4 (b := w.heap.size + 1) HB5.out.r1
          go_wp2_with fail
          have q0 : w.heap.size < w5.heap.size := (Array.getElem?_eq_some_iff.1 HB5.out.r0).1
          have q1 : w.heap.size + 1 < w5.heap.size := (Array.getElem?_eq_some_iff.1 HB5.out.r1).1
          have q2 : w.heap.size + 2 < w5.heap.size := (Array.getElem?_eq_some_iff.1 HB5.out.r2).1
          refine Chain.chain (fun p wx => Put (w5) (w.heap.size + 2) (.cells (if p = 0 then #[.int .i64 0, .int .i64 0, .int .i64 0] else #[.int .i64 l1, .int .i64 l2, .int .i64 l3]) 35 (0, 0)) wx) (fun _ _ => False) [3] (by kernel_rfl) (by kernel_rfl) (fun _ _ _ _ h => h.elim) ((Put.start HB5.out.r2).drew) ?_
          iterate 3 (first
              | (apply Chain.walk_quiet (by rfl) (by decide)
                 (intro p wx hp hwn hx K hK
                  obtain ⟨z0_0, z0_1, z0_2⟩ := row3 (b := w.heap.size) ((hx.other (w.heap.size) q0 (by omega)).trans HB5.out.r0)
                  first
                    | (go_simp
                       first
                        | (go_at_K; exact hK _ hx)))
                 exact ⟨_, rfl⟩)
              | (refine Chain.walk_no (by rfl) (by decide) ?_; simp only [Act.put, List.setIfInBounds_toArray, List.set_cons_succ, List.set_cons_zero]))
          apply Chain.walk_turn 0 (by rfl) (by rfl)
          · intro wx hx K hK
            exact Put.store 35 _ _ rfl rfl rfl hx (by kernel_rfl) rfl (by kernel_rfl) (fun w2 h => hK w2 h)
          · exact ⟨undef, rfl⟩
          iterate 2 (
                 apply Chain.walk_quiet (by rfl) (by decide)
                 (intro p wx hp hwn hx K hK
                  go_simp
                  (go_at_K; exact hK _ hx))
                 exact ⟨_, rfl⟩)
          refine Chain.walk_nil (fun w6 hp6 => ?_)
          replace hp6 : Put (w5) (w.heap.size + 2) (.cells #[.int .i64 l1, .int .i64 l2, .int .i64 l3] 35 (0, 0)) w6 := hp6
          try simp only [Act.put, List.setIfInBounds_toArray, List.set_cons_succ, List.set_cons_zero]
          have HB6 : Hid (Bx w [(w.heap.size, .cells #[.int .i64 l1, .int .i64 l2, .int .i64 l3] 35 (0, 0)), (w.heap.size + 1, .cells #[.int .i64 fl, .bool true, .int .i64 f2, .bool f3] 40 (0, 0)), (w.heap.size + 2, .cells #[.int .i64 l1, .int .i64 l2, .int .i64 l3] 35 (0, 0))] w6) := Lib.hid (HB5.out.ofPut (by omega) hp6 (by simp only [List.mem_cons, List.not_mem_nil, or_false]; rintro p (rfl | rfl | rfl) <;> simp <;> omega))
          clear c0_0 c0_1 c0_2 c1_0 c1_1 hp6 HB5 q0 q1 q2
          go_wp2_with fail
          exact bodyPost_ret (results_row_tmp2 Tryd.results56 _ _ _ _ _ (0, 0) _ rfl HB6.out.r2 Tryd.underlying35 rfl (by kernel_rfl)) rfl (⟨rfl, HB6.out.below⟩)
      · rw [if_pos h0]
        have hcr := hac.resolve_left (fun h => h0 h.1)
        obtain ⟨h12, hc1, hc2⟩ := hcr
        have hcc := Mo.isF_iff.1 hc1
        rw [if_neg h0] at hgo
        rw [← hgo] at FT
        have hto : Mo.toF F c a = Mo.tgt ⟨a, b, c⟩ := by
          unfold Mo.toF Mo.tgt
          rw [if_pos ⟨by omega, hc1⟩]
          rcases h12 with rfl | rfl <;> rfl
        rw [hto] at FT
        clear hto hgo
        have hl1 : (Mo.later ⟨a, b, c⟩).c = a := by unfold Mo.later; split <;> rfl
        generalize Mo.later ⟨a, b, c⟩ = l at *
        obtain ⟨l1, l2, l3⟩ := l
        simp only at hl1
        subst hl1
        simp only [Mo.agg] at FL
        generalize Mo.tgt ⟨l1, b, c⟩ = tg at *
        clear hac hc1 hc2 hcc h12 hF hb hT
        cases lv
        · rw [if_neg (fun h => by cases h.1)]
          have HB0 := Lib.hid (bxs3 w (.cells #[.int .i64 l1, .int .i64 b, .int .i64 c] 35) (.cells #[.int .i64 fl, .bool false, .int .i64 f2, .bool f3] 40) (.cells #[.int .i64 0, .int .i64 0, .int .i64 0] 35))
          go_enter Tryd.func56, Tryd.ntmps56
          go_wp2_with fail
          refine (FI.out _ HB0.out.below).mono ?_
          rintro e w1 ⟨rfl, hb1⟩
          have HB1 := Lib.hid (HB0.out.next hb1)
          clear hb1 HB0
          obtain ⟨c0_0, c0_1, c0_2⟩ := row3 (b := w.heap.size) HB1.out.r0
          obtain ⟨c1_0, c1_1, -⟩ := row4 (b := w.heap.size + 1) HB1.out.r1
          go_wp2_with fail
          refine (FF.out _).mono ?_
          rintro e w2 ⟨rfl, hb2⟩
          have HB2 := Lib.hid (HB1.out.next hb2)
          clear c0_0 c0_1 c0_2 c1_0 c1_1 hb2 HB1
          obtain ⟨c0_0, c0_1, c0_2⟩ := row3 (b := w.heap.size) HB2.out.r0
          obtain ⟨c1_0, c1_1, -⟩ := row4 (b := w.heap.size + 1) HB2.out.r1
          go_wp2_with fail
          refine (FT.out _ HB2.out.below).mono ?_
          rintro e w3 ⟨rfl, hb3⟩
          have HB3 := Lib.hid (HB2.out.next hb3)
          clear c0_0 c0_1 c0_2 c1_0 c1_1 hb3 HB2
          obtain ⟨c0_0, c0_1, c0_2⟩ := row3 (b := w.heap.size) HB3.out.r0
          obtain ⟨c1_0, c1_1, -⟩ := row4 (b := w.heap.size + 1) HB3.out.r1
          go_wp2_with fail
          refine (FL.out _).mono ?_
          rintro e w4 ⟨rfl, hb4⟩
          have HB4 := Lib.hid (HB3.out.next hb4)
          clear c0_0 c0_1 c0_2 c1_0 c1_1 hb4 HB3
          obtain ⟨c0_0, c0_1, c0_2⟩ := row3 (b := w.heap.size) HB4.out.r0
          obtain ⟨c1_0, c1_1, -⟩ := row4 (b := w.heap.size + 1) HB4.out.r1
          go_wp2_with (with_reducible show wpList _ _ _ (Oper.mk _ (.store 35 _ _) _ _ _ _ :: _) _ _; refine Hid.out ?_)
          refine Lib.hid ?_
          refine wpList_put rfl 35 _ _ rfl (w.heap.size) #[.int .i64 l1, .int .i64 l2, .int .i64 l3] _ 35 rfl rfl HB4.out.r0 (by kernel_rfl) rfl (by kernel_rfl) ?_
          intro w5 hr5 hg5
          have HB5 : Hid (Bx w [(w.heap.size, .cells #[.int .i64 l1, .int .i64 l2, .int .i64 l3] 35 (0, 0)), (w.heap.size + 1, .cells #[.int .i64 fl, .bool false, .int .i64 f2, .bool f3] 40 (0, 0)), (w.heap.size + 2, .cells #[.int .i64 0, .int .i64 0, .int .i64 0] 35 (0, 0))] w5) := Lib.hid (HB4.out.put (by omega) hg5.out hr5.out (by simp only [List.mem_cons, List.not_mem_nil, or_false]; rintro p (rfl | rfl | rfl) <;> simp <;> omega))
          clear c0_0 c0_1 c0_2 c1_0 c1_1 hr5 hg5 HB4
          obtain ⟨c0_0, c0_1, c0_2⟩ := row3 (b := w.heap.size) HB5.out.r0
          obtain ⟨c1_0, c1_1, -⟩ := row4 (b := w.heap.size + 1) HB5.out.r1
          go_wp2_with fail
          have q0 : w.heap.size < w5.heap.size := (Array.getElem?_eq_some_iff.1 HB5.out.r0).1
          have q1 : w.heap.size + 1 < w5.heap.size := (Array.getElem?_eq_some_iff.1 HB5.out.r1).1
          have q2 : w.heap.size + 2 < w5.heap.size := (Array.getElem?_eq_some_iff.1 HB5.out.r2).1
          refine Chain.chain (fun p wx => Put (w5) (w.heap.size + 2) (.cells (if p = 0 then #[.int .i64 0, .int .i64 0, .int .i64 0] else #[.int .i64 l1, .int .i64 l2, .int .i64 l3]) 35 (0, 0)) wx) (fun _ _ => False) [3] (by kernel_rfl) (by kernel_rfl) (fun _ _ _ _ h => h.elim) ((Put.start HB5.out.r2).drew) ?_
          iterate 3 (first
              | (apply Chain.walk_quiet (by rfl) (by decide)
                 (intro p wx hp hwn hx K hK
                  obtain ⟨z0_0, z0_1, z0_2⟩ := row3 (b := w.heap.size) ((hx.other (w.heap.size) q0 (by omega)).trans HB5.out.r0)
                  first
                    | (go_simp
                       first
                        | (go_at_K; exact hK _ hx)))
                 exact ⟨_, rfl⟩)
              | (refine Chain.walk_no (by rfl) (by decide) ?_; simp only [Act.put, List.setIfInBounds_toArray, List.set_cons_succ, List.set_cons_zero]))
          apply Chain.walk_turn 0 (by rfl) (by rfl)
          · intro wx hx K hK
            exact Put.store 35 _ _ rfl rfl rfl hx (by kernel_rfl) rfl (by kernel_rfl) (fun w2 h => hK w2 h)
          · exact ⟨undef, rfl⟩
          iterate 2 (
                 apply Chain.walk_quiet (by rfl) (by decide)
                 (intro p wx hp hwn hx K hK
                  go_simp
                  (go_at_K; exact hK _ hx))
                 exact ⟨_, rfl⟩)
          refine Chain.walk_nil (fun w6 hp6 => ?_)
          replace hp6 : Put (w5) (w.heap.size + 2) (.cells #[.int .i64 l1, .int .i64 l2, .int .i64 l3] 35 (0, 0)) w6 := hp6
          try simp only [Act.put, List.setIfInBounds_toArray, List.set_cons_succ, List.set_cons_zero]
          have HB6 : Hid (Bx w [(w.heap.size, .cells #[.int .i64 l1, .int .i64 l2, .int .i64 l3] 35 (0, 0)), (w.heap.size + 1, .cells #[.int .i64 fl, .bool false, .int .i64 f2, .bool f3] 40 (0, 0)), (w.heap.size + 2, .cells #[.int .i64 l1, .int .i64 l2, .int .i64 l3] 35 (0, 0))] w6) := Lib.hid (HB5.out.ofPut (by omega) hp6 (by simp only [List.mem_cons, List.not_mem_nil, or_false]; rintro p (rfl | rfl | rfl) <;> simp <;> omega))
          clear c0_0 c0_1 c0_2 c1_0 c1_1 hp6 HB5 q0 q1 q2
          go_wp2_with fail
          exact bodyPost_ret (results_row_tmp2 Tryd.results56 _ _ _ _ _ (0, 0) _ rfl HB6.out.r2 Tryd.underlying35 rfl (by kernel_rfl)) rfl (⟨rfl, HB6.out.below⟩)
        · by_cases hfe : fl = tg
          · rw [if_pos ⟨rfl, hfe⟩]
            clear FL
            have hfB : (fl == tg) = true := by simp [hfe]
            clear hfe
            have HB0 := Lib.hid (bxs3 w (.cells #[.int .i64 l1, .int .i64 b, .int .i64 c] 35) (.cells #[.int .i64 fl, .bool true, .int .i64 f2, .bool f3] 40) (.cells #[.int .i64 0, .int .i64 0, .int .i64 0] 35))
            go_enter Tryd.func56, Tryd.ntmps56
            go_wp2_with fail
            refine (FI.out _ HB0.out.below).mono ?_
            rintro e w1 ⟨rfl, hb1⟩
            have HB1 := Lib.hid (HB0.out.next hb1)
            clear hb1 HB0
            obtain ⟨c0_0, c0_1, c0_2⟩ := row3 (b := w.heap.size) HB1.out.r0
            obtain ⟨c1_0, c1_1, -⟩ := row4 (b := w.heap.size + 1) HB1.out.r1
            go_wp2_with fail
            refine (FF.out _).mono ?_
            rintro e w2 ⟨rfl, hb2⟩
            have HB2 := Lib.hid (HB1.out.next hb2)
            clear c0_0 c0_1 c0_2 c1_0 c1_1 hb2 HB1
            obtain ⟨c0_0, c0_1, c0_2⟩ := row3 (b := w.heap.size) HB2.out.r0
            obtain ⟨c1_0, c1_1, -⟩ := row4 (b := w.heap.size + 1) HB2.out.r1
            go_wp2_with fail
            refine (FT.out _ HB2.out.below).mono ?_
            rintro e w3 ⟨rfl, hb3⟩
            have HB3 := Lib.hid (HB2.out.next hb3)
            clear c0_0 c0_1 c0_2 c1_0 c1_1 hb3 HB2
            obtain ⟨c0_0, c0_1, c0_2⟩ := row3 (b := w.heap.size) HB3.out.r0
            obtain ⟨c1_0, c1_1, -⟩ := row4 (b := w.heap.size + 1) HB3.out.r1
            go_wp2_with (with_reducible show wpList _ _ _ (Oper.mk _ (.store 35 _ _) _ _ _ _ :: _) _ _; refine Hid.out ?_)
            refine Lib.hid ?_
            refine wpList_put rfl 35 _ _ rfl (w.heap.size + 2) #[.int .i64 0, .int .i64 0, .int .i64 0] _ 35 rfl rfl HB3.out.r2 (by kernel_rfl) rfl (by kernel_rfl) ?_
            intro w4 hr4 hg4
            have HB4 : Hid (Bx w [(w.heap.size, .cells #[.int .i64 l1, .int .i64 b, .int .i64 c] 35 (0, 0)), (w.heap.size + 1, .cells #[.int .i64 fl, .bool true, .int .i64 f2, .bool f3] 40 (0, 0)), (w.heap.size + 2, .cells #[.int .i64 0, .int .i64 0, .int .i64 0] 35 (0, 0))] w4) := Lib.hid (HB3.out.put (by omega) hg4.out hr4.out (by simp only [List.mem_cons, List.not_mem_nil, or_false]; rintro p (rfl | rfl | rfl) <;> simp <;> omega))
            clear c0_0 c0_1 c0_2 c1_0 c1_1 hr4 hg4 HB3
            go_wp2_with fail
            exact bodyPost_ret (results_row_tmp2 Tryd.results56 _ _ _ _ _ (0, 0) _ rfl HB4.out.r2 Tryd.underlying35 rfl (by kernel_rfl)) rfl (⟨rfl, HB4.out.below⟩)
          · rw [if_neg (fun h => hfe h.2)]
            have hfB : (fl == tg) = false := by simp [hfe]
            have HB0 := Lib.hid (bxs3 w (.cells #[.int .i64 l1, .int .i64 b, .int .i64 c] 35) (.cells #[.int .i64 fl, .bool true, .int .i64 f2, .bool f3] 40) (.cells #[.int .i64 0, .int .i64 0, .int .i64 0] 35))
            go_enter Tryd.func56, Tryd.ntmps56
            go_wp2_with fail
            refine (FI.out _ HB0.out.below).mono ?_
            rintro e w1 ⟨rfl, hb1⟩
            have HB1 := Lib.hid (HB0.out.next hb1)
            clear hb1 HB0
            obtain ⟨c0_0, c0_1, c0_2⟩ := row3 (b := w.heap.size) HB1.out.r0
            obtain ⟨c1_0, c1_1, -⟩ := row4 (b := w.heap.size + 1) HB1.out.r1
            go_wp2_with fail
            refine (FF.out _).mono ?_
            rintro e w2 ⟨rfl, hb2⟩
            have HB2 := Lib.hid (HB1.out.next hb2)
            clear c0_0 c0_1 c0_2 c1_0 c1_1 hb2 HB1
            obtain ⟨c0_0, c0_1, c0_2⟩ := row3 (b := w.heap.size) HB2.out.r0
            obtain ⟨c1_0, c1_1, -⟩ := row4 (b := w.heap.size + 1) HB2.out.r1
            go_wp2_with fail
            refine (FT.out _ HB2.out.below).mono ?_
            rintro e w3 ⟨rfl, hb3⟩
            have HB3 := Lib.hid (HB2.out.next hb3)
            clear c0_0 c0_1 c0_2 c1_0 c1_1 hb3 HB2
            obtain ⟨c0_0, c0_1, c0_2⟩ := row3 (b := w.heap.size) HB3.out.r0
            obtain ⟨c1_0, c1_1, -⟩ := row4 (b := w.heap.size + 1) HB3.out.r1
            go_wp2_with fail
            refine (FL.out _).mono ?_
            rintro e w4 ⟨rfl, hb4⟩
            have HB4 := Lib.hid (HB3.out.next hb4)
            clear c0_0 c0_1 c0_2 c1_0 c1_1 hb4 HB3
            obtain ⟨c0_0, c0_1, c0_2⟩ := row3 (b := w.heap.size) HB4.out.r0
            obtain ⟨c1_0, c1_1, -⟩ := row4 (b := w.heap.size + 1) HB4.out.r1
            go_wp2_with (with_reducible show wpList _ _ _ (Oper.mk _ (.store 35 _ _) _ _ _ _ :: _) _ _; refine Hid.out ?_)
            refine Lib.hid ?_
            refine wpList_put rfl 35 _ _ rfl (w.heap.size) #[.int .i64 l1, .int .i64 l2, .int .i64 l3] _ 35 rfl rfl HB4.out.r0 (by kernel_rfl) rfl (by kernel_rfl) ?_
            intro w5 hr5 hg5
            have HB5 : Hid (Bx w [(w.heap.size, .cells #[.int .i64 l1, .int .i64 l2, .int .i64 l3] 35 (0, 0)), (w.heap.size + 1, .cells #[.int .i64 fl, .bool true, .int .i64 f2, .bool f3] 40 (0, 0)), (w.heap.size + 2, .cells #[.int .i64 0, .int .i64 0, .int .i64 0] 35 (0, 0))] w5) := Lib.hid (HB4.out.put (by omega) hg5.out hr5.out (by simp only [List.mem_cons, List.not_mem_nil, or_false]; rintro p (rfl | rfl | rfl) <;> simp <;> omega))
            clear c0_0 c0_1 c0_2 c1_0 c1_1 hr5 hg5 HB4
            obtain ⟨c0_0, c0_1, c0_2⟩ := row3 (b := w.heap.size) HB5.out.r0
            obtain ⟨c1_0, c1_1, -⟩ := row4 (b := w.heap.size + 1) HB5.out.r1
            go_wp2_with fail
            have q0 : w.heap.size < w5.heap.size := (Array.getElem?_eq_some_iff.1 HB5.out.r0).1
            have q1 : w.heap.size + 1 < w5.heap.size := (Array.getElem?_eq_some_iff.1 HB5.out.r1).1
            have q2 : w.heap.size + 2 < w5.heap.size := (Array.getElem?_eq_some_iff.1 HB5.out.r2).1
            refine Chain.chain (fun p wx => Put (w5) (w.heap.size + 2) (.cells (if p = 0 then #[.int .i64 0, .int .i64 0, .int .i64 0] else #[.int .i64 l1, .int .i64 l2, .int .i64 l3]) 35 (0, 0)) wx) (fun _ _ => False) [3] (by kernel_rfl) (by kernel_rfl) (fun _ _ _ _ h => h.elim) ((Put.start HB5.out.r2).drew) ?_
            iterate 3 (first
                | (apply Chain.walk_quiet (by rfl) (by decide)
                   (intro p wx hp hwn hx K hK
                    obtain ⟨z0_0, z0_1, z0_2⟩ := row3 (b := w.heap.size) ((hx.other (w.heap.size) q0 (by omega)).trans HB5.out.r0)
                    first
                      | (go_simp
                         first
                          | (go_at_K; exact hK _ hx)))
                   exact ⟨_, rfl⟩)
                | (refine Chain.walk_no (by rfl) (by decide) ?_; simp only [Act.put, List.setIfInBounds_toArray, List.set_cons_succ, List.set_cons_zero]))
            apply Chain.walk_turn 0 (by rfl) (by rfl)
            · intro wx hx K hK
              exact Put.store 35 _ _ rfl rfl rfl hx (by kernel_rfl) rfl (by kernel_rfl) (fun w2 h => hK w2 h)
            · exact ⟨undef, rfl⟩
            iterate 2 (
                   apply Chain.walk_quiet (by rfl) (by decide)
                   (intro p wx hp hwn hx K hK
                    go_simp
                    (go_at_K; exact hK _ hx))
                   exact ⟨_, rfl⟩)
            refine Chain.walk_nil (fun w6 hp6 => ?_)
            replace hp6 : Put (w5) (w.heap.size + 2) (.cells #[.int .i64 l1, .int .i64 l2, .int .i64 l3] 35 (0, 0)) w6 := hp6
            try simp only [Act.put, List.setIfInBounds_toArray, List.set_cons_succ, List.set_cons_zero]
            have HB6 : Hid (Bx w [(w.heap.size, .cells #[.int .i64 l1, .int .i64 l2, .int .i64 l3] 35 (0, 0)), (w.heap.size + 1, .cells #[.int .i64 fl, .bool true, .int .i64 f2, .bool f3] 40 (0, 0)), (w.heap.size + 2, .cells #[.int .i64 l1, .int .i64 l2, .int .i64 l3] 35 (0, 0))] w6) := Lib.hid (HB5.out.ofPut (by omega) hp6 (by simp only [List.mem_cons, List.not_mem_nil, or_false]; rintro p (rfl | rfl | rfl) <;> simp <;> omega))
            clear c0_0 c0_1 c0_2 c1_0 c1_1 hp6 HB5 q0 q1 q2
            go_wp2_with fail
            exact bodyPost_ret (results_row_tmp2 Tryd.results56 _ _ _ _ _ (0, 0) _ rfl HB6.out.r2 Tryd.underlying35 rfl (by kernel_rfl)) rfl (⟨rfl, HB6.out.below⟩)
end Go.Proofs.YtnjcegkefjdgdaaDoor
