/- Count of calls; Above and Below of the reference. No statement of the seat is proved here. -/
import Derived.Test.YtclkfclbnapamaaCsHas
import Derived.Test.YtclkfclbnapamaaCsOnes
namespace Go.Proofs.Ytclkfclbnapamaa
open Go.RowKit

set_option maxHeartbeats 1000000 in
theorem count_any (c : Cs) (w : World) (hc : c.ok) :
    Calls Try.prog 25 #[c.agg] w fun e w' => e = .returned (.int .i64 (Cs.count c)) ∧ Below w.heap.size w w' := by
  have F1 := Lib.hid (fun w => ones_any c.up hc.1 w)
  have F2 := Lib.hid (fun w => ones_any c.dn hc.2 w)
  have HBX := Lib.hid (fun (wx : World) (h : Below (w.heap.size + 1) (w.alloc (.cells #[.int .u32 c.up, .int .u32 c.dn] 24)) wx) => boxCs h)
  have hl := Cs.count_le hc
  have HH : Cs.count c = Cs.pop c.up + Cs.pop c.dn := rfl
  rw [HH] at hl ⊢
  clear HH
  generalize Cs.pop c.up = p1 at *
  generalize Cs.pop c.dn = p2 at *
  obtain ⟨c1, c2⟩ := c
  simp only [Cs.agg] at *
  clear hc
  have hw : IntKind.i64.wrap ((p1 : Int) + p2) = (p1 : Int) + p2 := by rw [IntKind.wrap_i64]; omega
  go_enter Try.func25, Try.ntmps25
  go_wp2_with fail
  refine Bag.region (fun wx => Below (w.heap.size + 1) (w.alloc (.cells #[.int .u32 c1, .int .u32 c2] 24)) wx) (by kernel_rfl) (by kernel_rfl) (Below.refl _ _).drew ?_
  iterate 8 (first
      | (apply Bag.walk_yes (by rfl)
         (intro wx hx K hK
          obtain ⟨k0, k1⟩ := HBX.out _ hx
          first
            | (go_simp
               first
                | (go_at_call 32; with_reducible first | refine (F1.out _).mono ?_ | refine (F2.out _).mono ?_); (rintro e x1 ⟨rfl, hb⟩; exact hK _ (hx.trans (hb.mono (size1 hx))))
                | (go_at_K; exact hK _ hx)))
         rfl)
      | (refine Bag.walk_no (by rfl) ?_; simp only [Act.put, List.setIfInBounds_toArray, List.set_cons_succ, List.set_cons_zero]))
  refine Bag.walk_nil (fun w1 hB => ?_)
  go_wp2
  go_ret
  exact ⟨ret_int (by omega), below_of_new hB⟩


set_option maxHeartbeats 2000000 in
theorem refAbove_any (c : Cs) (f : Int) (w : World) (hc : c.ok) :
    Calls Try.prog 14 #[c.agg, .int .i64 f] w fun e w' => e = .returned (Cs.above c f).agg ∧ Below w.heap.size w w' := by
  have HBX := Lib.hid (fun (wx : World) (h : Below (w.heap.size + 1) (w.alloc (.cells #[.int .u32 c.up, .int .u32 c.dn] 24)) wx) => boxCs h)
  have HP := Lib.hid (fun k (hk : k < 32) => Cs.pow_lt hk)
  have FB := Lib.hid (fun k (hk : k < 32) w => refBoth_any c ⟨2 ^ k, 2 ^ k⟩ w hc ⟨Cs.pow_lt hk, Cs.pow_lt hk⟩)
  have hS := fun k => Cs.sel_ok hc (fun k => decide (f < (k : Int))) k
  have HE := Lib.hid (Cs.above_sel hc f)
  have hN : ∀ k, Cs.sel c (fun k => decide (f < (k : Int))) (k + 1) = if decide (f < (k : Int)) = true then Cs.union (Cs.sel c (fun k => decide (f < (k : Int))) k) (Cs.both c ⟨2 ^ k, 2 ^ k⟩) else Cs.sel c (fun k => decide (f < (k : Int))) k := fun k => rfl
  have HN := Lib.hid hN
  clear hN
  have FU := Lib.hid (fun k (hk : k < 32) w => refUnion_any (Cs.sel c (fun k => decide (f < (k : Int))) k) (Cs.both c ⟨2 ^ k, 2 ^ k⟩) w (hS k) (Cs.both_ok hc))
  have H0 : Cs.sel c (fun k => decide (f < (k : Int))) 0 = ⟨0, 0⟩ := rfl
  clear hS
  generalize Cs.sel c (fun k => decide (f < (k : Int))) = S at *
  generalize Cs.above c f = R at *
  obtain ⟨BB, hBB⟩ : ∃ BB : Nat → Cs, ∀ k, Cs.both c ⟨2 ^ k, 2 ^ k⟩ = BB k := ⟨_, fun _ => rfl⟩
  have HBB := Lib.hid hBB
  clear hBB
  simp only [HBB.out] at FB FU HN
  clear HBB
  obtain ⟨c1, c2⟩ := c
  simp only [Cs.agg] at *
  clear hc
  go_enter Try.func14, Try.ntmps14
  go_wp2_with fail
  have hL0 : Lit (w.heap.size + 2) ((w.alloc (.cells #[.int .u32 c1, .int .u32 c2] 24)).alloc (.cells #[.int .u32 0, .int .u32 0] 24)) (w.heap.size + 2) (.cells #[.int .u32 0, .int .u32 0] 24 (0, 0)) (((w.alloc (.cells #[.int .u32 c1, .int .u32 c2] 24)).alloc (.cells #[.int .u32 0, .int .u32 0] 24)).alloc (.cells #[.int .u32 0, .int .u32 0] 24)) := by
    have h := Lit.one ((w.alloc (.cells #[.int .u32 c1, .int .u32 c2] 24)).alloc (.cells #[.int .u32 0, .int .u32 0] 24)) (.cells #[.int .u32 0, .int .u32 0] 24)
    have e : ((w.alloc (.cells #[.int .u32 c1, .int .u32 c2] 24)).alloc (.cells #[.int .u32 0, .int .u32 0] 24)).heap.size = w.heap.size + 2 := by simp
    rw [e] at h
    exact h
  have HL0 := Lib.hid hL0
  clear hL0
  go_loopw [6] (fun v wr => ∃ k : Nat, k ≤ 32 ∧ v = .int .i64 k ∧ Lit (w.heap.size + 2) ((w.alloc (.cells #[.int .u32 c1, .int .u32 c2] 24)).alloc (.cells #[.int .u32 0, .int .u32 0] 24)) (w.heap.size + 2) (.cells #[.int .u32 (S k).up, .int .u32 (S k).dn] 24 (0, 0)) wr) (fun v _ => 32 - (intOf v).toNat)
  case atStart =>
    refine ⟨0, by omega, rfl, ?_⟩
    rw [H0]
    exact HL0.out
  case round =>
    obtain ⟨k, hk, rfl, hL⟩ := hrel
    by_cases hlt : k < 32
    · have hp := two_mod hlt
      have hp2 := HP.out k hlt
      have F1 := Lib.hid (fun w => FB.out k hlt w)
      have F2 := Lib.hid (fun w => FU.out k hlt w)
      have hn := HN.out k
      by_cases ht : f < (k : Int)
      · rw [if_pos (decide_eq_true ht)] at hn
        rw [← hn] at F2
        clear hn
        have HL := Lib.hid hL
        clear hL
        generalize hS1 : S (k + 1) = S1 at *
        have HS1 := Lib.hid hS1
        clear hS1
        obtain ⟨r1, r2⟩ := S1
        generalize S k = S0 at *
        obtain ⟨s1, s2⟩ := S0
        generalize BB k = B0 at *
        obtain ⟨b1, b2⟩ := B0
        simp only at HL F1 F2
        clear hp2
        have hm : min (IntKind.u64.wrap (k : Int)).toNat 32 = k := by rw [IntKind.wrap_u64]; omega
        have hs : IntKind.u32.wrap (2 ^ min (IntKind.u64.wrap (k : Int)).toNat 32) = ((2 ^ k : Nat) : Int) := by rw [hm, IntKind.wrap_u32]; exact hp
        clear hm
        generalize ((2 ^ k : Nat) : Int) = z at *
        have hd : decide ((k : Int) < 32) = true := decide_eq_true (by omega)
        go_wp2_with fail
        refine Chain.chain (fun p wx => Lit (w.heap.size + 2) ((w.alloc (.cells #[.int .u32 c1, .int .u32 c2] 24)).alloc (.cells #[.int .u32 0, .int .u32 0] 24)) (w.heap.size + 2) (.cells (if p = 0 then #[.int .u32 s1, .int .u32 s2] else #[.int .u32 r1, .int .u32 r2]) 24 (0, 0)) wx) (fun _ _ => False) [11] (by kernel_rfl) (by kernel_rfl) (fun _ _ _ _ h => h.elim) (HL.out.drew) ?_
        iterate 11 (first
            | (apply Chain.walk_quiet (by rfl) (by decide)
               (intro p wx hp hwn hx K hK
                obtain rfl : p = 0 := (by rcases Nat.lt_or_ge p 1 with h | h; exact Nat.lt_one_iff.1 h; obtain rfl : p = 1 := Nat.le_antisymm hp h; exact absurd ((Eq.symm (show _ = false by kernel_rfl)).trans hwn) Bool.false_ne_true)
                obtain ⟨k0, k1⟩ := HBX.out _ (lit_box hx)
                have z0 := hx.cell 0
                have z1 := hx.cell 1
                simp only [if_true, List.getElem?_toArray, List.getElem?_cons_zero, List.getElem?_cons_succ] at z0 z1
                first
                  | (go_simp
                     first
                      | (go_at_call 10; with_reducible refine (F1.out _).mono ?_; rintro e x1 ⟨rfl, hb⟩; exact hK _ (hx.next hb))
                      | (go_at_call 8; with_reducible refine (F2.out _).mono ?_; rintro e x1 ⟨rfl, hb⟩; exact hK _ (hx.next hb))
                      | (go_at_K; exact hK _ hx)))
               exact ⟨_, rfl⟩)
            | (refine Chain.walk_no (by rfl) (by decide) ?_; simp only [Act.put, List.setIfInBounds_toArray, List.set_cons_succ, List.set_cons_zero]))
        apply Chain.walk_turn 0 (by rfl) (by rfl)
        · intro wx hx K hK
          exact Lit.store 24 _ _ rfl rfl rfl hx (by omega) (by kernel_rfl) rfl (by kernel_rfl) (fun w2 h => hK w2 h)
        · exact ⟨undef, rfl⟩
        refine Chain.walk_nil (fun w1 hB => ?_)
        replace hB : Lit (w.heap.size + 2) ((w.alloc (.cells #[.int .u32 c1, .int .u32 c2] 24)).alloc (.cells #[.int .u32 0, .int .u32 0] 24)) (w.heap.size + 2) (.cells #[.int .u32 r1, .int .u32 r2] 24 (0, 0)) w1 := hB
        simp only [Act.put]
        go_wp2
        go_roundw
        case rel => exact ⟨k + 1, by omega, by go_num, by rw [HS1.out]; exact hB⟩
        case measure => simp [intOf]; omega
      · rw [if_neg (by rw [decide_eq_false ht]; decide)] at hn
        have HN1 := Lib.hid hn
        have HL := Lib.hid hL
        clear hL hn hp hp2
        go_wp2_with fail
        go_roundw
        case rel => exact ⟨k + 1, by omega, by go_num, by rw [HN1.out]; exact HL.out⟩
        case measure => simp [intOf]; omega
    · obtain rfl : k = 32 := by omega
      rw [HE.out] at hL
      have hr1 : wr.heap[w.heap.size + 1]? = some (.cells #[.int .u32 0, .int .u32 0] 24 (0, 0)) := (hL.below.block _ (by omega)).trans (last2 w _ _)
      have hL1 : Lit (w.heap.size + 1) (w.alloc (.cells #[.int .u32 c1, .int .u32 c2] 24)) (w.heap.size + 1) (.cells #[.int .u32 0, .int .u32 0] 24 (0, 0)) wr :=
        ⟨lit_box hL, (by have := hL.size; omega), hr1⟩
      obtain ⟨r1, r2⟩ := R
      have z0 := hL.cell 0
      have z1 := hL.cell 1
      have y0 := hL1.cell 0
      have y1 := hL1.cell 1
      simp only [List.getElem?_toArray, List.getElem?_cons_zero, List.getElem?_cons_succ] at z0 z1 y0 y1
      have q0 := hL1.free 0
      have q1 := hL1.free 1
      have HL1 := Lib.hid hL1
      clear hL hL1 hr1
      go_wp2
      have hE := HL1.out.put2 (Nat.le_refl _) rfl (.int .u32 r1) (.int .u32 r2)
      exact bodyPost_ret (results_cell_row Try.results14 _ _ _ _ _ (0, 0) _ rfl (hE.row) Try.underlying24 rfl (by kernel_rfl)) rfl (⟨rfl, below_of_new hE.below⟩)


set_option maxHeartbeats 2000000 in
theorem refBelow_any (c : Cs) (f : Int) (w : World) (hc : c.ok) :
    Calls Try.prog 16 #[c.agg, .int .i64 f] w fun e w' => e = .returned (Cs.below c f).agg ∧ Below w.heap.size w w' := by
  have HBX := Lib.hid (fun (wx : World) (h : Below (w.heap.size + 1) (w.alloc (.cells #[.int .u32 c.up, .int .u32 c.dn] 24)) wx) => boxCs h)
  have HP := Lib.hid (fun k (hk : k < 32) => Cs.pow_lt hk)
  have FB := Lib.hid (fun k (hk : k < 32) w => refBoth_any c ⟨2 ^ k, 2 ^ k⟩ w hc ⟨Cs.pow_lt hk, Cs.pow_lt hk⟩)
  have hS := fun k => Cs.sel_ok hc (fun k => decide ((k : Int) < f)) k
  have HE := Lib.hid (Cs.below_sel hc f)
  have hN : ∀ k, Cs.sel c (fun k => decide ((k : Int) < f)) (k + 1) = if decide ((k : Int) < f) = true then Cs.union (Cs.sel c (fun k => decide ((k : Int) < f)) k) (Cs.both c ⟨2 ^ k, 2 ^ k⟩) else Cs.sel c (fun k => decide ((k : Int) < f)) k := fun k => rfl
  have HN := Lib.hid hN
  clear hN
  have FU := Lib.hid (fun k (hk : k < 32) w => refUnion_any (Cs.sel c (fun k => decide ((k : Int) < f)) k) (Cs.both c ⟨2 ^ k, 2 ^ k⟩) w (hS k) (Cs.both_ok hc))
  have H0 : Cs.sel c (fun k => decide ((k : Int) < f)) 0 = ⟨0, 0⟩ := rfl
  clear hS
  generalize Cs.sel c (fun k => decide ((k : Int) < f)) = S at *
  generalize Cs.below c f = R at *
  obtain ⟨BB, hBB⟩ : ∃ BB : Nat → Cs, ∀ k, Cs.both c ⟨2 ^ k, 2 ^ k⟩ = BB k := ⟨_, fun _ => rfl⟩
  have HBB := Lib.hid hBB
  clear hBB
  simp only [HBB.out] at FB FU HN
  clear HBB
  obtain ⟨c1, c2⟩ := c
  simp only [Cs.agg] at *
  clear hc
  go_enter Try.func16, Try.ntmps16
  go_wp2_with fail
  have hL0 : Lit (w.heap.size + 2) ((w.alloc (.cells #[.int .u32 c1, .int .u32 c2] 24)).alloc (.cells #[.int .u32 0, .int .u32 0] 24)) (w.heap.size + 2) (.cells #[.int .u32 0, .int .u32 0] 24 (0, 0)) (((w.alloc (.cells #[.int .u32 c1, .int .u32 c2] 24)).alloc (.cells #[.int .u32 0, .int .u32 0] 24)).alloc (.cells #[.int .u32 0, .int .u32 0] 24)) := by
    have h := Lit.one ((w.alloc (.cells #[.int .u32 c1, .int .u32 c2] 24)).alloc (.cells #[.int .u32 0, .int .u32 0] 24)) (.cells #[.int .u32 0, .int .u32 0] 24)
    have e : ((w.alloc (.cells #[.int .u32 c1, .int .u32 c2] 24)).alloc (.cells #[.int .u32 0, .int .u32 0] 24)).heap.size = w.heap.size + 2 := by simp
    rw [e] at h
    exact h
  have HL0 := Lib.hid hL0
  clear hL0
  go_loopw [6] (fun v wr => ∃ k : Nat, k ≤ 32 ∧ v = .int .i64 k ∧ Lit (w.heap.size + 2) ((w.alloc (.cells #[.int .u32 c1, .int .u32 c2] 24)).alloc (.cells #[.int .u32 0, .int .u32 0] 24)) (w.heap.size + 2) (.cells #[.int .u32 (S k).up, .int .u32 (S k).dn] 24 (0, 0)) wr) (fun v _ => 32 - (intOf v).toNat)
  case atStart =>
    refine ⟨0, by omega, rfl, ?_⟩
    rw [H0]
    exact HL0.out
  case round =>
    obtain ⟨k, hk, rfl, hL⟩ := hrel
    by_cases hlt : k < 32
    · have hp := two_mod hlt
      have hp2 := HP.out k hlt
      have F1 := Lib.hid (fun w => FB.out k hlt w)
      have F2 := Lib.hid (fun w => FU.out k hlt w)
      have hn := HN.out k
      by_cases ht : (k : Int) < f
      · rw [if_pos (decide_eq_true ht)] at hn
        rw [← hn] at F2
        clear hn
        have HL := Lib.hid hL
        clear hL
        generalize hS1 : S (k + 1) = S1 at *
        have HS1 := Lib.hid hS1
        clear hS1
        obtain ⟨r1, r2⟩ := S1
        generalize S k = S0 at *
        obtain ⟨s1, s2⟩ := S0
        generalize BB k = B0 at *
        obtain ⟨b1, b2⟩ := B0
        simp only at HL F1 F2
        clear hp2
        have hm : min (IntKind.u64.wrap (k : Int)).toNat 32 = k := by rw [IntKind.wrap_u64]; omega
        have hs : IntKind.u32.wrap (2 ^ min (IntKind.u64.wrap (k : Int)).toNat 32) = ((2 ^ k : Nat) : Int) := by rw [hm, IntKind.wrap_u32]; exact hp
        clear hm
        generalize ((2 ^ k : Nat) : Int) = z at *
        have hd : decide ((k : Int) < 32) = true := decide_eq_true (by omega)
        go_wp2_with fail
        refine Chain.chain (fun p wx => Lit (w.heap.size + 2) ((w.alloc (.cells #[.int .u32 c1, .int .u32 c2] 24)).alloc (.cells #[.int .u32 0, .int .u32 0] 24)) (w.heap.size + 2) (.cells (if p = 0 then #[.int .u32 s1, .int .u32 s2] else #[.int .u32 r1, .int .u32 r2]) 24 (0, 0)) wx) (fun _ _ => False) [11] (by kernel_rfl) (by kernel_rfl) (fun _ _ _ _ h => h.elim) (HL.out.drew) ?_
        iterate 11 (first
            | (apply Chain.walk_quiet (by rfl) (by decide)
               (intro p wx hp hwn hx K hK
                obtain rfl : p = 0 := (by rcases Nat.lt_or_ge p 1 with h | h; exact Nat.lt_one_iff.1 h; obtain rfl : p = 1 := Nat.le_antisymm hp h; exact absurd ((Eq.symm (show _ = false by kernel_rfl)).trans hwn) Bool.false_ne_true)
                obtain ⟨k0, k1⟩ := HBX.out _ (lit_box hx)
                have z0 := hx.cell 0
                have z1 := hx.cell 1
                simp only [if_true, List.getElem?_toArray, List.getElem?_cons_zero, List.getElem?_cons_succ] at z0 z1
                first
                  | (go_simp
                     first
                      | (go_at_call 10; with_reducible refine (F1.out _).mono ?_; rintro e x1 ⟨rfl, hb⟩; exact hK _ (hx.next hb))
                      | (go_at_call 8; with_reducible refine (F2.out _).mono ?_; rintro e x1 ⟨rfl, hb⟩; exact hK _ (hx.next hb))
                      | (go_at_K; exact hK _ hx)))
               exact ⟨_, rfl⟩)
            | (refine Chain.walk_no (by rfl) (by decide) ?_; simp only [Act.put, List.setIfInBounds_toArray, List.set_cons_succ, List.set_cons_zero]))
        apply Chain.walk_turn 0 (by rfl) (by rfl)
        · intro wx hx K hK
          exact Lit.store 24 _ _ rfl rfl rfl hx (by omega) (by kernel_rfl) rfl (by kernel_rfl) (fun w2 h => hK w2 h)
        · exact ⟨undef, rfl⟩
        refine Chain.walk_nil (fun w1 hB => ?_)
        replace hB : Lit (w.heap.size + 2) ((w.alloc (.cells #[.int .u32 c1, .int .u32 c2] 24)).alloc (.cells #[.int .u32 0, .int .u32 0] 24)) (w.heap.size + 2) (.cells #[.int .u32 r1, .int .u32 r2] 24 (0, 0)) w1 := hB
        simp only [Act.put]
        go_wp2
        go_roundw
        case rel => exact ⟨k + 1, by omega, by go_num, by rw [HS1.out]; exact hB⟩
        case measure => simp [intOf]; omega
      · rw [if_neg (by rw [decide_eq_false ht]; decide)] at hn
        have HN1 := Lib.hid hn
        have HL := Lib.hid hL
        clear hL hn hp hp2
        go_wp2_with fail
        go_roundw
        case rel => exact ⟨k + 1, by omega, by go_num, by rw [HN1.out]; exact HL.out⟩
        case measure => simp [intOf]; omega
    · obtain rfl : k = 32 := by omega
      rw [HE.out] at hL
      have hr1 : wr.heap[w.heap.size + 1]? = some (.cells #[.int .u32 0, .int .u32 0] 24 (0, 0)) := (hL.below.block _ (by omega)).trans (last2 w _ _)
      have hL1 : Lit (w.heap.size + 1) (w.alloc (.cells #[.int .u32 c1, .int .u32 c2] 24)) (w.heap.size + 1) (.cells #[.int .u32 0, .int .u32 0] 24 (0, 0)) wr :=
        ⟨lit_box hL, (by have := hL.size; omega), hr1⟩
      obtain ⟨r1, r2⟩ := R
      have z0 := hL.cell 0
      have z1 := hL.cell 1
      have y0 := hL1.cell 0
      have y1 := hL1.cell 1
      simp only [List.getElem?_toArray, List.getElem?_cons_zero, List.getElem?_cons_succ] at z0 z1 y0 y1
      have q0 := hL1.free 0
      have q1 := hL1.free 1
      have HL1 := Lib.hid hL1
      clear hL hL1 hr1
      go_wp2
      have hE := HL1.out.put2 (Nat.le_refl _) rfl (.int .u32 r1) (.int .u32 r2)
      exact bodyPost_ret (results_cell_row Try.results16 _ _ _ _ _ (0, 0) _ rfl (hE.row) Try.underlying24 rfl (by kernel_rfl)) rfl (⟨rfl, below_of_new hE.below⟩)

end Go.Proofs.Ytclkfclbnapamaa
