/- What the texts behind this one rest on: several texts in one. No statement of the seat is proved here. -/
import Derived.Test.YtifbkoaggjikpaaLM13
import Derived.Test.YtifbkoaggjikpaaLM03
import Derived.Test.YtifbkoaggjikpaaLM02
import Derived.RangeFuncNested
import Derived.RangeFuncBound
import Derived.RangeFuncCalls
import Derived.RangeFuncLeaves
import Derived.RangeFuncBox
import Derived.Shelf.Abstract
import Derived.Shelf.RegionOpen
import Derived.WalkKit
import Derived.OwnWalkIn
import Derived.TacticsInMore
import Derived.LoopNIn
import Derived.LoopIn
import Derived.Maps.AppendAt
namespace Go.Proofs.Ytifbkoaggjikpaa
section
open Go.RowKit

set_option maxRecDepth 100000

theorem Lit.drew {B b : Nat} {W1 wx : World} {row : Obj} (h : Lit B W1 b row wx) {n : Nat} : Lit B W1 b row { wx with drawn := n } := ⟨⟨h.below.os, h.below.tape, h.below.output, h.below.size, h.below.block⟩, h.size, h.row⟩
theorem size1 {w wx : World} {o : Obj} (h : Below (w.heap.size + 1) (w.alloc o) wx) : w.heap.size + 1 ≤ wx.heap.size := by
  have := h.size
  simpa using this
theorem boxCs {w wx : World} {c : Cs} (h : Below (w.heap.size + 1) (w.alloc (.cells #[.int .u32 c.up, .int .u32 c.dn] 61)) wx) :
    wx.cell? ⟨w.heap.size, 0, none⟩ = some (.int .u32 c.up) ∧ wx.cell? ⟨w.heap.size, 1, none⟩ = some (.int .u32 c.dn) := ⟨cell_new_below h 0, cell_new_below h 1⟩
set_option maxHeartbeats 1000000 in
theorem has_any (c : Cs) (f d : Int) (w : World) (hc : c.ok) :
    Calls Try.prog 85 #[c.agg, .int .i64 f, .int .i64 d] w fun e w' => e = .returned (.bool (Cs.has c f d)) ∧ Below w.heap.size w w' := by
  have F := Lib.hid (fun w => one_any f d w)
  have G := Lib.hid (fun w => both_any c (Cs.one f d) w hc (Cs.one_ok f d))
  have HBX := Lib.hid (fun (wx : World) (h : Below (w.heap.size + 1) (w.alloc (.cells #[.int .u32 c.up, .int .u32 c.dn] 61)) wx) => boxCs h)
  have HH : Cs.has c f d = !(Cs.eqB (Cs.both c (Cs.one f d)) Cs.empty) := rfl
  rw [HH]
  clear HH
  generalize Cs.both c (Cs.one f d) = B at *
  generalize Cs.one f d = O at *
  obtain ⟨c1, c2⟩ := c
  obtain ⟨b1, b2⟩ := B
  obtain ⟨o1, o2⟩ := O
  simp only [Cs.agg, Cs.eqB, Cs.empty] at *
  clear hc
  have hne := fun wx => neqCs (b1 : Int) (b2 : Int) 0 0 wx
  have hq : (!((b1 : Int) == 0 && (b2 : Int) == 0)) = !(b1 == 0 && b2 == 0) := by cases b1 <;> cases b2 <;> rfl
  rw [hq] at hne
  clear hq
  generalize (!(b1 == 0 && b2 == 0)) = r at *
  go_enter Try.func85, Try.ntmps85
  go_wp2_with fail
  refine Bag.region (fun wx => Below (w.heap.size + 1) (w.alloc (.cells #[.int .u32 c1, .int .u32 c2] 61)) wx) (by kernel_rfl) (by kernel_rfl) (Below.refl _ _).drew ?_
  iterate 8 (first
      | (apply Bag.walk_yes (by rfl)
         (intro wx hx K hK
          obtain ⟨k0, k1⟩ := HBX.out _ hx
          first
            | (go_simp
               first
                | (go_at_call 107; refine (F.out _).mono ?_; rintro e x1 ⟨rfl, hb⟩; exact hK _ (hx.trans (hb.mono (size1 hx))))
                | (go_at_call 106; refine (G.out _).mono ?_; rintro e x1 ⟨rfl, hb⟩; exact hK _ (hx.trans (hb.mono (size1 hx))))
                | (go_at_K; exact hK _ hx)))
         rfl)
      | (refine Bag.walk_no (by rfl) ?_; simp only [Act.put, List.setIfInBounds_toArray, List.set_cons_succ, List.set_cons_zero]))
  refine Bag.walk_nil (fun w1 hB => ?_)
  go_wp2
  go_ret
  exact ⟨rfl, below_of_new hB⟩

end

section
open Go.RowKit

end

section
open Go.RowKit Go.Shelf

attribute [local go_sem] Oper.semAt_some

/-- Block b lies as it lay, and nothing has gone. -/
structure KeepB (b : Nat) (W W' : World) : Prop where
  size : W.heap.size ≤ W'.heap.size
  block : W'.heap[b]? = W.heap[b]?
theorem KeepB.refl (b : Nat) (W : World) : KeepB b W W := ⟨Nat.le_refl _, rfl⟩
theorem KeepB.trans {b : Nat} {A B C : World} (h : KeepB b A B) (k : KeepB b B C) : KeepB b A C := ⟨Nat.le_trans h.size k.size, k.block.trans h.block⟩
theorem KeepB.of {b : Nat} {W W' : World} (h : Below W.heap.size W W') (hb : b < W.heap.size) : KeepB b W W' := ⟨h.size, h.block b hb⟩
theorem KeepB.cell {b i : Nat} {W W' : World} (h : KeepB b W W') : W'.cell? ⟨b, i, none⟩ = W.cell? ⟨b, i, none⟩ := World.cell?_of_block (a := ⟨b, i, none⟩) h.block
end

section
open Go.RowKit

end

section
open Go.RowKit Go.Shelf

attribute [local go_sem] Oper.semAt_some

end

section
open Go.RowKit

set_option maxRecDepth 100000

end
end Go.Proofs.Ytifbkoaggjikpaa
