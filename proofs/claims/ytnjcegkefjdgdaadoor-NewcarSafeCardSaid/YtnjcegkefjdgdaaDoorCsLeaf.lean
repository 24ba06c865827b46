/- The sets of calls, function by function: calls and the reference. No statement of the seat is proved here. -/
import Derived.Test.YtnjcegkefjdgdaaDoorG0
import Derived.Test.YtnjcegkefjdgdaaDoorG7
import Derived.Test.YtnjcegkefjdgdaaDoorBag
namespace Go.Proofs.YtnjcegkefjdgdaaDoor
open Go.RowKit

theorem ret_u32 {a b : Int} (h : a = b) : Ending.returned (.int .u32 a) = .returned (.int .u32 b) := by rw [h]
/-- The result's block, laid last. -/
theorem last1 (w : World) (A : Obj) : (w.alloc A).heap[w.heap.size]? = some A := heap_alloc_new w A
theorem last3 (w : World) (A B C : Obj) : (((w.alloc A).alloc B).alloc C).heap[w.heap.size + 1 + 1]? = some C := by
  have := heap_alloc_new ((w.alloc A).alloc B) C
  simpa using this

set_option maxHeartbeats 1000000 in
theorem union_any (a b : Cs) (w : World) (ha : a.ok) (hb : b.ok) :
    Calls Tryd.prog 87 #[a.agg, b.agg] w fun e w' => e = .returned (Cs.union a b).agg ∧ Below w.heap.size w w' := by
  have e1 := u32_or_nat a.up b.up ha.1 hb.1
  have e2 := u32_or_nat a.dn b.dn ha.2 hb.2
  have hR : (Cs.union a b).agg = .agg #[.int .u32 (Cs.union a b).up, .int .u32 (Cs.union a b).dn] := rfl
  unfold Cs.union at hR ⊢
  obtain ⟨a1, a2⟩ := a
  obtain ⟨b1, b2⟩ := b
  simp only [Cs.agg] at e1 e2 hR ⊢
  clear ha hb hR
  go_enter Tryd.func87, Tryd.ntmps87
  go_wp2
  exact bodyPost_ret (results_cell_row Tryd.results87 _ _ _ _ _ (0, 0) _ rfl (last3 _ _ _ _) Tryd.underlying42 rfl (by kernel_rfl)) rfl (⟨rfl, by go_grown⟩)

set_option maxHeartbeats 1000000 in
theorem both_any (a b : Cs) (w : World) (ha : a.ok) (hb : b.ok) :
    Calls Tryd.prog 86 #[a.agg, b.agg] w fun e w' => e = .returned (Cs.both a b).agg ∧ Below w.heap.size w w' := by
  have e1 := u32_and_nat a.up b.up ha.1 hb.1
  have e2 := u32_and_nat a.dn b.dn ha.2 hb.2
  have hR : (Cs.both a b).agg = .agg #[.int .u32 (Cs.both a b).up, .int .u32 (Cs.both a b).dn] := rfl
  unfold Cs.both at hR ⊢
  obtain ⟨a1, a2⟩ := a
  obtain ⟨b1, b2⟩ := b
  simp only [Cs.agg] at e1 e2 hR ⊢
  clear ha hb hR
  go_enter Tryd.func86, Tryd.ntmps86
  go_wp2
  exact bodyPost_ret (results_cell_row Tryd.results86 _ _ _ _ _ (0, 0) _ rfl (last3 _ _ _ _) Tryd.underlying42 rfl (by kernel_rfl)) rfl (⟨rfl, by go_grown⟩)

set_option maxHeartbeats 1000000 in
theorem minus_any (a b : Cs) (w : World) (ha : a.ok) (hb : b.ok) :
    Calls Tryd.prog 77 #[a.agg, b.agg] w fun e w' => e = .returned (Cs.minus a b).agg ∧ Below w.heap.size w w' := by
  have e1 := u32_andNot_nat a.up b.up ha.1 hb.1
  have e2 := u32_andNot_nat a.dn b.dn ha.2 hb.2
  have hR : (Cs.minus a b).agg = .agg #[.int .u32 (Cs.minus a b).up, .int .u32 (Cs.minus a b).dn] := rfl
  unfold Cs.minus at hR ⊢
  obtain ⟨a1, a2⟩ := a
  obtain ⟨b1, b2⟩ := b
  simp only [Cs.agg] at e1 e2 hR ⊢
  clear ha hb hR
  go_enter Tryd.func77, Tryd.ntmps77
  go_wp2
  exact bodyPost_ret (results_cell_row Tryd.results77 _ _ _ _ _ (0, 0) _ rfl (last3 _ _ _ _) Tryd.underlying42 rfl (by kernel_rfl)) rfl (⟨rfl, by go_grown⟩)

theorem two_mod {k : Nat} (h : k < 32) : (2 : Int) ^ k % 4294967296 = ((2 ^ k : Nat) : Int) := by
  have := Cs.pow_lt h
  have e : (2 : Int) ^ k = ((2 ^ k : Nat) : Int) := by rw [Int.natCast_pow]; rfl
  rw [e]
  generalize 2 ^ k = x at *
  omega
set_option maxHeartbeats 1000000 in
theorem at_any (f : Int) (w : World) :
    Calls Tryd.prog 93 #[.int .i64 f] w fun e w' => e = .returned (.int .u32 (Cs.bitAt f)) ∧ w = w' := by
  by_cases h0 : f < 0
  · have e : Cs.bitAt f = 0 := by unfold Cs.bitAt; rw [if_neg (by omega)]
    rw [e]
    go_enter Tryd.func93, Tryd.ntmps93
    go_wp2
    go_ret
    exact ⟨rfl, rfl⟩
  · by_cases h1 : f < 32
    · obtain ⟨k, rfl⟩ : ∃ k : Nat, f = (k : Int) := ⟨f.toNat, by omega⟩
      have hk : k < 32 := by omega
      rw [Cs.bitAt_nat hk]
      go_enter Tryd.func93, Tryd.ntmps93
      go_wp2
      go_ret
      exact ⟨ret_u32 (two_mod hk), rfl⟩
    · have e : Cs.bitAt f = 0 := by unfold Cs.bitAt; rw [if_neg (by omega)]
      rw [e]
      go_enter Tryd.func93, Tryd.ntmps93
      go_wp2
      go_ret
      exact ⟨rfl, rfl⟩
set_option maxHeartbeats 1000000 in
theorem one_any (f d : Int) (w : World) :
    Calls Tryd.prog 88 #[.int .i64 f, .int .i64 d] w fun e w' => e = .returned (Cs.one f d).agg ∧ Below w.heap.size w w' := by
  have F := Lib.hid (fun w => at_any f w)
  by_cases h1 : d = 1
  · subst h1
    rw [show Cs.one f 1 = ⟨Cs.bitAt f, 0⟩ from rfl]
    generalize Cs.bitAt f = x at *
    simp only [Cs.agg]
    go_enter Tryd.func88, Tryd.ntmps88
    go_wp2_with fail
    refine (F.out _).mono ?_
    rintro e w1 ⟨rfl, rfl⟩
    go_wp2
    exact bodyPost_ret (results_cell_row Tryd.results88 _ _ _ _ _ (0, 0) _ rfl (last1 _ _) Tryd.underlying42 rfl (by kernel_rfl)) rfl (⟨rfl, by go_grown⟩)
  · by_cases h2 : d = 2
    · subst h2
      rw [show Cs.one f 2 = ⟨0, Cs.bitAt f⟩ from rfl]
      generalize Cs.bitAt f = x at *
      simp only [Cs.agg]
      go_enter Tryd.func88, Tryd.ntmps88
      go_wp2_with fail
      refine (F.out _).mono ?_
      rintro e w1 ⟨rfl, rfl⟩
      go_wp2
      exact bodyPost_ret (results_cell_row Tryd.results88 _ _ _ _ _ (0, 0) _ rfl (last1 _ _) Tryd.underlying42 rfl (by kernel_rfl)) rfl (⟨rfl, by go_grown⟩)
    · rw [show Cs.one f d = ⟨0, 0⟩ from by unfold Cs.one; rw [if_neg h1, if_neg h2]; rfl]
      have q1 : (d == 1) = false := beq_eq_false_iff_ne.2 h1
      have q2 : (d == 2) = false := beq_eq_false_iff_ne.2 h2
      simp only [Cs.agg]
      go_enter Tryd.func88, Tryd.ntmps88
      go_wp2
      exact bodyPost_ret (results_cell_row Tryd.results88 _ _ _ _ _ (0, 0) _ rfl (last1 _ _) Tryd.underlying42 rfl (by kernel_rfl)) rfl (⟨rfl, by go_grown⟩)
end Go.Proofs.YtnjcegkefjdgdaaDoor
