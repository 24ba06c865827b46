/- The reference's Same, and the sanity check of the layer's laws. No statement of the seat is proved here. -/
import Derived.Test.YtcobcefefifmcaaCtRunBad
import Derived.Test.YtcobcefefifmcaaCtRun
import Derived.Test.YtcobcefefifmcaaCtEq
import Derived.Deep.WholeRow
namespace Go.Proofs.Ytcobcefefifmcaa
open Go.RowKit

theorem run_build_zero (ev : Operand → Value) (o : Oper) (ho : o.op = .build 31 #[]) (w : World) : (execOp ev o).run Try.prog w = .ok (.value (.agg Db.zero.cells)) w := by
  unfold execOp
  rw [ho]
  kernel_rfl
/-- The zero state, not written out. -/
theorem wpList_build_zero {ops : Array Oper} {rest : List Oper} {op : Oper} {a : Act} {w : World} {Q : Exit → Act → World → Prop} (hgd : op.guard = none) (ho : op.op = .build 31 #[])
    (h : wpList Try.prog ops Q rest (a.put op.dst (.agg Db.zero.cells)) w) : wpList Try.prog ops Q (op :: rest) a w :=
  wpList_plain hgd fun _ hK => by
    unfold Oper.wp
    rw [run_build_zero _ _ ho]
    exact hK _ _ h
theorem wp_build_zero {op : Oper} {a : Act} {w : World} {K : Act → World → Prop} {Q : Exit → Act → World → Prop} (ho : op.op = .build 31 #[])
    (h : K (a.put op.dst (.agg Db.zero.cells)) w) : op.wp Try.prog a w K Q := by
  unfold Oper.wp
  rw [run_build_zero _ _ ho]
  exact h

theorem run_alloc_db (ev : Operand → Value) (o : Oper) (ho : o.op = .alloc 31) (w : World) : (execOp ev o).run Try.prog w = .ok (.value (.pointer (some ⟨w.heap.size, 0, none⟩))) (w.alloc (.cells Db.zero.cells 31)) := by
  unfold execOp
  rw [ho]
  kernel_rfl
/-- A new variable of a state, and what is stored into it at once. -/
theorem wpList_new_db {ops : Array Oper} {rest : List Oper} {o1 o2 : Oper} {a : Act} {w : World} {Q : Exit → Act → World → Prop} (hg1 : o1.guard = none) (hg2 : o2.guard = none) (ho1 : o1.op = .alloc 31) (x y : Operand) (ho2 : o2.op = .store 31 x y)
    (s : Db) (hs : s.ok) (hx : (a.put o1.dst (.pointer (some ⟨w.heap.size, 0, none⟩))).eval x = .pointer (some ⟨w.heap.size, 0, none⟩)) (hy : (a.put o1.dst (.pointer (some ⟨w.heap.size, 0, none⟩))).eval y = .agg s.cells)
    (h : wpList Try.prog ops Q rest ((a.put o1.dst (.pointer (some ⟨w.heap.size, 0, none⟩))).put o2.dst undef) (w.alloc (.cells s.cells 31))) : wpList Try.prog ops Q (o1 :: o2 :: rest) a w :=
  wpList_plain hg1 fun _ hK => by
    unfold Oper.wp
    rw [run_alloc_db _ _ ho1]
    refine hK _ _ ?_
    refine wpList_store_row' hg2 31 x y ho2 w.heap.size s.cells Db.zero.cells 31 hx hy (heap_alloc_new _ _) (infoDb (Db.size hs)) (by rw [Db.size hs, Db.size Db.zero_okD]) (Db.one s) _ (show Hid _ from (World.setRow_alloc_new w Db.zero.cells s.cells 31).symm) h

/-- The same, the world behind it by its name. -/
theorem wpList_new_db' {ops : Array Oper} {rest : List Oper} {o1 o2 : Oper} {a : Act} {w : World} {Q : Exit → Act → World → Prop} (hg1 : o1.guard = none) (hg2 : o2.guard = none) (ho1 : o1.op = .alloc 31) (x y : Operand) (ho2 : o2.op = .store 31 x y)
    (s : Db) (hs : s.ok) (hx : (a.put o1.dst (.pointer (some ⟨w.heap.size, 0, none⟩))).eval x = .pointer (some ⟨w.heap.size, 0, none⟩)) (hy : (a.put o1.dst (.pointer (some ⟨w.heap.size, 0, none⟩))).eval y = .agg s.cells) (w2 : World) (hw : Hid (w2 = w.alloc (.cells s.cells 31)))
    (h : wpList Try.prog ops Q rest ((a.put o1.dst (.pointer (some ⟨w.heap.size, 0, none⟩))).put o2.dst undef) w2) : wpList Try.prog ops Q (o1 :: o2 :: rest) a w :=
  wpList_new_db hg1 hg2 ho1 x y ho2 s hs hx hy (hw.out ▸ h)

set_option maxHeartbeats 1000000 in
theorem same_any (l : List Ct) (v1 v2 : Value) (w : World) (h1 : LV w v1 l) (h2 : LV w v2 l) (hl : l.length ≤ 1000000) :
    Calls Try.prog 20 #[v1, v2] w fun e w' => e = .returned (.bool true) ∧ Below w.heap.size w w' := by
  obtain ⟨A1, c1, rfl, hA1⟩ := h1
  obtain ⟨A2, c2, rfl, hA2⟩ := h2
  have H1 := Lib.hid hA1
  have H2 := Lib.hid hA2
  clear hA1 hA2
  go_enter Try.func20, Try.ntmps20
  go_wp2_with fail
  go_loopw [5] (fun v wr => ∃ k : Nat, k ≤ l.length ∧ v = .int .i64 k ∧ Below w.heap.size w wr) (fun v _ => l.length - (intOf v).toNat)
  case atStart => exact ⟨0, Nat.zero_le _, rfl, Below.refl _ _⟩
  case round =>
    obtain ⟨k, hk, rfl, hbw⟩ := hrel
    by_cases hlt : k < l.length
    · obtain ⟨b, off, rfl, hb, r0, r1, r2, r3, r4⟩ := (H1.out.below hbw).at_ hlt
      obtain ⟨b', off', rfl, hb', q0, q1, q2, q3, q4⟩ := (H2.out.below hbw).at_ hlt
      generalize l[k] = rk at *
      obtain ⟨rf, ru, rd, ro, rc⟩ := rk
      simp only at r0 r1 r2 r3 r4 q0 q1 q2 q3 q4
      have HB := Lib.hid hbw
      clear hbw
      go_wp2_with fail
      go_quiet (fail)
      go_wp2_with fail
      go_roundw
      case rel => exact ⟨k + 1, by omega, by go_num, below_drewN HB.out _⟩
      case measure => simp [intOf]; omega
    · obtain rfl : k = l.length := by omega
      go_wp2
      go_ret
      exact ⟨rfl, hbw⟩

def onCt : Ct := ⟨0, false, false, true, false⟩
def saneL : List Ct := [onCt, Ct.zero, onCt, onCt]
theorem saneL_at (w : World) : LAt (w.alloc (.cells (flat saneL).toArray 24)) (some ⟨w.heap.size, 0, none⟩) saneL :=
  .inr ⟨w.heap.size, 0, rfl, fun j v hv => by rw [Nat.zero_add, cell_of_row _ _ _ _ _ (0, 0) (heap_alloc_new w _)]; simpa using hv⟩
theorem sane_run (w : World) (b : Nat) (hb : b = w.heap.size) :
    Calls Try.prog 18 #[.int .i64 2, .agg Db.zero.cells, .slice (some ⟨b, 0, none⟩) 4 4] (w.alloc (.cells #[.int .u32 0, .bool false, .bool false, .bool true, .bool false, .int .u32 0, .bool false, .bool false, .bool false, .bool false, .int .u32 0, .bool false, .bool false, .bool true, .bool false, .int .u32 0, .bool false, .bool false, .bool true, .bool false] 24)) fun e w' => ∃ g, e = .returned (.tuple #[.agg (Db.zero.run 2 saneL).cells, .slice (some ⟨g, 0, none⟩) 4 4, .int .i64 0]) ∧
      w'.heap[g]? = some (.cells (flat (Db.zero.outs 2 saneL)).toArray 24 (0, 0)) ∧ Below w.heap.size w w' ∧ g < w'.heap.size := by
  subst hb
  exact (run_good 2 Db.zero saneL (some ⟨w.heap.size, 0, none⟩) 4 _ Db.zero_okD (by intro c hc; simp only [saneL, List.mem_cons, List.not_mem_nil, or_false] at hc; rcases hc with rfl | rfl | rfl | rfl <;> (show (0 : Nat) < 4294967296; decide)) (Db.isB_zero (by decide) (by decide)) (by decide) (saneL_at w)).mono
    fun e w' ⟨g, he, _, hg, hb⟩ => ⟨g, he, hg, below_of_new (hb.mono (by simp)), by
      rcases Nat.lt_or_ge g w'.heap.size with h | h
      · exact h
      · rw [Array.getElem?_eq_none h] at hg; cases hg⟩
theorem sane_outs2 : (flat (Db.zero.outs 2 saneL))[13]? = some (.bool false) := by kernel_rfl
theorem sane_outs3 : (flat (Db.zero.outs 2 saneL))[18]? = some (.bool true) := by kernel_rfl

set_option maxHeartbeats 4000000 in
theorem sane_any (w : World) : Calls Try.prog 13 #[] w fun e w' => e = .returned (.bool true) ∧ Below w.heap.size w w' := by
  have FI := Lib.hid (fun w => isState_any 0 Db.zero w Db.zero_okD)
  rw [show Db.zero.isB 0 = false from by decide +kernel] at FI
  rw [show Db.zero.agg = .agg Db.zero.cells from rfl] at FI
  have FG := Lib.hid (fun w => get_any onCt 34 w (by show (0 : Nat) < 4294967296; decide))
  rw [show onCt.getI 34 = true from by decide] at FG
  unfold Ct.agg onCt at FG
  go_enter Try.func13, Try.ntmps13
  go_wp2_with (with_reducible show wpList _ _ _ (Oper.mk _ (.build 31 _) _ _ _ _ :: _) _ _; refine wpList_build_zero rfl rfl ?_)
  refine (sane_run _ _ (by simp)).mono ?_
  rintro e x1 ⟨g, rfl, hg, hb, hgl⟩
  have hrow := (hb.block w.heap.size (by simp)).trans (heap_alloc_new w _)
  have d2 := (cell_of_row x1 g 13 _ _ (0, 0) hg).trans ((List.getElem?_toArray ..).trans sane_outs2)
  have d3 := (cell_of_row x1 g 18 _ _ (0, 0) hg).trans ((List.getElem?_toArray ..).trans sane_outs3)
  have okR := Db.ok_run (n := 2) Db.zero_okD saneL
  have hbw := below_of_new (hb.mono (by simp))
  have hsz : w.heap.size < x1.heap.size := by have := hb.size; simp at this; omega
  generalize Db.zero.run 2 saneL = S at *
  have r0 : x1.cell? ⟨w.heap.size, 0, none⟩ = some (.int .u32 0) := cell_of_row _ _ _ _ _ (0, 0) hrow
  have r1 : x1.cell? ⟨w.heap.size, 1, none⟩ = some (.bool false) := cell_of_row _ _ _ _ _ (0, 0) hrow
  have r2 : x1.cell? ⟨w.heap.size, 2, none⟩ = some (.bool false) := cell_of_row _ _ _ _ _ (0, 0) hrow
  have r3 : x1.cell? ⟨w.heap.size, 3, none⟩ = some (.bool true) := cell_of_row _ _ _ _ _ (0, 0) hrow
  have r4 : x1.cell? ⟨w.heap.size, 4, none⟩ = some (.bool false) := cell_of_row _ _ _ _ _ (0, 0) hrow
  have HB := Lib.hid hbw
  clear hb hg hrow hbw
  go_wp2_with (refine wpList_new_db rfl rfl rfl _ _ rfl S okR rfl rfl ?_)
  refine (FG.out _).mono ?_
  rintro e x3 ⟨rfl, hb3⟩
  have HB3 := Lib.hid ((HB.out.alloc (by omega) (.cells S.cells 31)).trans (hb3.mono (by simp; omega)))
  clear hb3 r0 r1 r2 r3 r4 d2 d3
  go_wp2_with (with_reducible show wpList _ _ _ (Oper.mk _ (.build 31 _) _ _ _ _ :: _) _ _; refine wpList_build_zero rfl rfl ?_)
  refine (FI.out _).mono ?_
  rintro e x4 ⟨rfl, hb4⟩
  have HB4 := Lib.hid (HB3.out.trans (hb4.mono HB3.out.size))
  clear hb4
  go_wp2_with fail
  go_ret
  exact ⟨rfl, HB4.out⟩
end Go.Proofs.Ytcobcefefifmcaa
