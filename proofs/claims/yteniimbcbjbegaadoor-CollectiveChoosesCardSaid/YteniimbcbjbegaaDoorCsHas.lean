/- Has, Above and Below of calls and of the reference. No statement of the seat is proved here. -/
import Derived.Test.YteniimbcbjbegaaDoorCsLeaf
import Derived.Test.YteniimbcbjbegaaDoorCsEq
namespace Go.Proofs.YteniimbcbjbegaaDoor
open Go.RowKit

set_option maxRecDepth 100000

theorem Lit.drew {B b : Nat} {W1 wx : World} {row : Obj} (h : Lit B W1 b row wx) {n : Nat} : Lit B W1 b row { wx with drawn := n } := ⟨⟨h.below.os, h.below.tape, h.below.output, h.below.size, h.below.block⟩, h.size, h.row⟩
theorem lit_box {w wx : World} {A Z : Obj} {b : Nat} {row : Obj} (h : Lit (w.heap.size + 2) ((w.alloc A).alloc Z) b row wx) : Below (w.heap.size + 1) (w.alloc A) wx :=
  ((Below.refl (w.heap.size + 1) (w.alloc A)).alloc (by simp) Z).trans (h.below.mono (by omega))
theorem size1 {w wx : World} {o : Obj} (h : Below (w.heap.size + 1) (w.alloc o) wx) : w.heap.size + 1 ≤ wx.heap.size := by
  have := h.size
  simpa using this
theorem boxCs {w wx : World} {c : Cs} (h : Below (w.heap.size + 1) (w.alloc (.cells #[.int .u32 c.up, .int .u32 c.dn] 28)) wx) :
    wx.cell? ⟨w.heap.size, 0, none⟩ = some (.int .u32 c.up) ∧ wx.cell? ⟨w.heap.size, 1, none⟩ = some (.int .u32 c.dn) := ⟨cell_new_below h 0, cell_new_below h 1⟩
set_option maxHeartbeats 1000000 in
theorem has_any (c : Cs) (f d : Int) (w : World) (hc : c.ok) :
    Calls Tryd.prog 38 #[c.agg, .int .i64 f, .int .i64 d] w fun e w' => e = .returned (.bool (Cs.has c f d)) ∧ Below w.heap.size w w' := by
  have F := Lib.hid (fun w => one_any f d w)
  have G := Lib.hid (fun w => both_any c (Cs.one f d) w hc (Cs.one_ok f d))
  have HBX := Lib.hid (fun (wx : World) (h : Below (w.heap.size + 1) (w.alloc (.cells #[.int .u32 c.up, .int .u32 c.dn] 28)) wx) => boxCs h)
  have HH : Cs.has c f d = !(Cs.eqB (Cs.both c (Cs.one f d)) Cs.empty) := rfl
  rw [HH]
  clear HH
  generalize Cs.both c (Cs.one f d) = B at *
  generalize Cs.one f d = O at *
  obtain ⟨c1, c2⟩ := c
  obtain ⟨b1, b2⟩ := B
  obtain ⟨o1, o2⟩ := O
  simp only [Cs.agg, Cs.eqB, Cs.empty] at *
  clear hc
  have hne := fun wx => neqCs (b1 : Int) (b2 : Int) 0 0 wx
  have hq : (!((b1 : Int) == 0 && (b2 : Int) == 0)) = !(b1 == 0 && b2 == 0) := by cases b1 <;> cases b2 <;> rfl
  rw [hq] at hne
  clear hq
  generalize (!(b1 == 0 && b2 == 0)) = r at *
  go_enter Tryd.func38, Tryd.ntmps38
  go_wp2_with fail
  refine Bag.region (fun wx => Below (w.heap.size + 1) (w.alloc (.cells #[.int .u32 c1, .int .u32 c2] 28)) wx) (by kernel_rfl) (by kernel_rfl) (Below.refl _ _).drew ?_
  iterate 8 (first
      | (apply Bag.walk_yes (by rfl)
         (intro wx hx K hK
          obtain ⟨k0, k1⟩ := HBX.out _ hx
          first
            | (go_simp
               first
                | (go_at_call 46; refine (F.out _).mono ?_; rintro e x1 ⟨rfl, hb⟩; exact hK _ (hx.trans (hb.mono (size1 hx))))
                | (go_at_call 44; refine (G.out _).mono ?_; rintro e x1 ⟨rfl, hb⟩; exact hK _ (hx.trans (hb.mono (size1 hx))))
                | (go_at_K; exact hK _ hx)))
         rfl)
      | (refine Bag.walk_no (by rfl) ?_; simp only [Act.put, List.setIfInBounds_toArray, List.set_cons_succ, List.set_cons_zero]))
  refine Bag.walk_nil (fun w1 hB => ?_)
  go_wp2
  go_ret
  exact ⟨rfl, below_of_new hB⟩

theorem bit_test {x k : Nat} (hx : x < 4294967296) : (bits .and .u32 ((x : Int) / 2 ^ k) 1 == 1) = x.testBit k := by
  have e : (x : Int) / 2 ^ k = ((x / 2 ^ k : Nat) : Int) := by rw [Int.natCast_ediv, Int.natCast_pow]; rfl
  have hl : x / 2 ^ k < 4294967296 := Nat.lt_of_le_of_lt (Nat.div_le_self _ _) hx
  have h1 := u32_and_nat (x / 2 ^ k) 1 hl (by decide)
  rw [e]
  rw [Nat.and_one_is_mod] at h1
  rw [show ((1 : Nat) : Int) = 1 from rfl] at h1
  rw [h1, Nat.testBit_eq_decide_div_mod_eq]
  by_cases h : x / 2 ^ k % 2 = 1
  · rw [h]; rfl
  · rw [decide_eq_false h]
    exact beq_eq_false_iff_ne.2 (by omega)
set_option maxHeartbeats 1000000 in
theorem refHas_any (c : Cs) (f d : Int) (w : World) (hc : c.ok) :
    Calls Tryd.prog 25 #[c.agg, .int .i64 f, .int .i64 d] w fun e w' => e = .returned (.bool (Cs.has c f d)) ∧ Below w.heap.size w w' := by
  by_cases h0 : 0 ≤ f ∧ f < 32
  · obtain ⟨k, rfl⟩ : ∃ k : Nat, f = (k : Int) := ⟨f.toNat, by omega⟩
    have hk : k < 32 := by omega
    have g0 : (0 : Int) ≤ (k : Int) := by omega
    have g1 : (k : Int) < 32 := by omega
    by_cases h1 : d = 1
    · subst h1
      rw [Cs.has_up hc hk]
      have HB := bit_test (k := k) hc.1
      obtain ⟨c1, c2⟩ := c
      simp only [Cs.agg]
      simp only at HB
      clear hc h0
      cases hb : c1.testBit k
      all_goals
        rw [hb] at HB
        go_enter Tryd.func25, Tryd.ntmps25
        go_wp2
        go_ret
        exact ⟨rfl, by go_grown⟩
    · by_cases h2 : d = 2
      · subst h2
        rw [Cs.has_dn hc hk]
        have HB := bit_test (k := k) hc.2
        obtain ⟨c1, c2⟩ := c
        simp only [Cs.agg]
        simp only at HB
        clear hc h0
        cases hb : c2.testBit k
        all_goals
          rw [hb] at HB
          go_enter Tryd.func25, Tryd.ntmps25
          go_wp2
          go_ret
          exact ⟨rfl, by go_grown⟩
      · rw [Cs.has_dir c _ h1 h2]
        have q1 : (d == 1) = false := beq_eq_false_iff_ne.2 h1
        have q2 : (d == 2) = false := beq_eq_false_iff_ne.2 h2
        obtain ⟨c1, c2⟩ := c
        simp only [Cs.agg]
        clear hc h0
        go_enter Tryd.func25, Tryd.ntmps25
        go_wp2
        go_ret
        exact ⟨rfl, by go_grown⟩
  · rw [Cs.has_floor c h0]
    obtain ⟨c1, c2⟩ := c
    simp only [Cs.agg]
    by_cases hn : f < 0
    · go_enter Tryd.func25, Tryd.ntmps25
      go_wp2
      go_ret
      exact ⟨rfl, by go_grown⟩
    · have hb : 31 < f := by omega
      go_enter Tryd.func25, Tryd.ntmps25
      go_wp2
      go_ret
      exact ⟨rfl, by go_grown⟩

end Go.Proofs.YteniimbcbjbegaaDoor
