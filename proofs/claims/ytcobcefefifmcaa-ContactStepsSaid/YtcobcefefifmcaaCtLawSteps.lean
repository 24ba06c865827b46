/- The law ContactSteps: the state behind a reading, or the error. No condition. -/
import Derived.Test.YtcobcefefifmcaaCtOpen
import Derived.Test.YtcobcefefifmcaaCtRefRun
import Derived.Test.YtcobcefefifmcaaCtStepBad
import Derived.Test.YtcobcefefifmcaaCtRefStepBad
namespace Go.Proofs.Ytcobcefefifmcaa
open Go.RowKit Go.ChangeShapes Go.WideShapes Go.ChangeAt

def stepS (n : Int) (s : Db) (r : Ct) : Db := if s.isB n then s.step n r else Db.zero
def stepE (n : Int) (s : Db) : Int := if s.isB n then 0 else 1
theorem stepS_ok {n : Int} {s : Db} {r : Ct} (h : s.ok) : (stepS n s r).ok := by
  unfold stepS; split
  · exact Db.ok_step h
  · exact Db.zero_okD
theorem stepAll_any (n : Int) (s : Db) (r : Ct) (w : World) (hs : s.ok) (hr : r.ok) :
    Calls Try.prog 14 #[.int .i64 n, .agg s.cells, r.agg] w fun e w' => e = .returned (.tuple #[.agg (stepS n s r).cells, .int .i64 (stepE n s)]) ∧ Below w.heap.size w w' := by
  unfold stepS stepE
  cases h : s.isB n
  · exact step_bad n s r w hs h
  · exact step_good n s r w hs hr h
theorem refStepAll_any (n : Int) (s : Db) (r : Ct) (w : World) (hs : s.ok) (hr : r.ok) :
    Calls Try.prog 15 #[.int .i64 n, .agg s.cells, r.agg] w fun e w' => e = .returned (.tuple #[.agg (stepS n s r).cells, .int .i64 (stepE n s)]) ∧ Below w.heap.size w w' := by
  unfold stepS stepE
  cases h : s.isB n
  · exact refStep_bad n s r w hs h
  · exact refStep_good n s r w hs hr h

set_option maxHeartbeats 4000000 in
theorem lawContactSteps_walk (n : Int) (s : Db) (r : Ct) (w : World) (_hn : (Lit.int .i64 n).wf = true) (hs : s.ok) (hr : r.ok) :
    Calls Try.prog 4 #[.int .i64 n, .agg s.cells, r.agg] w fun e w' => e = .returned (.bool true) ∧ Below w.heap.size w w' := by
  have FA := Lib.hid (fun m wx => stepAll_any m s r wx hs hr)
  have FB := Lib.hid (fun m wx => refStepAll_any m s r wx hs hr)
  have FI := Lib.hid (fun m wx => isState_any m s wx hs)
  have FJ := Lib.hid (fun m wx => refIsState_any m s wx hs)
  have HOK := Lib.hid (And.intro hs hr)
  have hi := infoDb (Db.size hs)
  have HC := Lib.hid (rfl : s.cells = s.cells)
  clear hs hr
  obtain ⟨rf, ru, rd, ro, rc⟩ := r
  simp only [Ct.agg] at FA FB ⊢
  unfold Db.agg at FI FJ
  obtain ⟨C, hC⟩ : ∃ C, C = s.cells := ⟨_, rfl⟩
  rw [← hC] at FA FB FI FJ hi ⊢
  have HCC := Lib.hid hC
  clear hC HC
  go_enter Try.func4, Try.ntmps4
  go_wp2_with fail
  go_loopw [7] (fun v wr => ∃ k : Nat, k ≤ 3 ∧ v = .int .i64 k ∧ wr.heap[w.heap.size]? = some (.cells C 31 (0, 0)) ∧ wr.heap[w.heap.size + 1]? = some (.cells #[.int .u32 rf, .bool ru, .bool rd, .bool ro, .bool rc] 24 (0, 0)) ∧ Below w.heap.size w wr) (fun v _ => 3 - (intOf v).toNat)
  case atStart => exact ⟨0, Nat.zero_le _, rfl, (blk2 _ _ _).1, (blk2 _ _ _).2, by go_grown⟩
  case round =>
    obtain ⟨k, hk, rfl, h0, h1, hbw⟩ := hrel
    have hsr : w.heap.size + 1 < wr.heap.size := by
      rcases Nat.lt_or_ge (w.heap.size + 1) wr.heap.size with h | h
      · exact h
      · rw [Array.getElem?_eq_none h] at h1; cases h1
    by_cases hlt : k < 3
    · have r0 : wr.cell? ⟨w.heap.size + 1, 0, none⟩ = some (.int .u32 rf) := cell_of_row _ _ _ _ _ (0, 0) h1
      have r1 : wr.cell? ⟨w.heap.size + 1, 1, none⟩ = some (.bool ru) := cell_of_row _ _ _ _ _ (0, 0) h1
      have r2 : wr.cell? ⟨w.heap.size + 1, 2, none⟩ = some (.bool rd) := cell_of_row _ _ _ _ _ (0, 0) h1
      have r3 : wr.cell? ⟨w.heap.size + 1, 3, none⟩ = some (.bool ro) := cell_of_row _ _ _ _ _ (0, 0) h1
      have r4 : wr.cell? ⟨w.heap.size + 1, 4, none⟩ = some (.bool rc) := cell_of_row _ _ _ _ _ (0, 0) h1
      have hq : ∀ o, (wr.alloc o).heap[w.heap.size]? = some (.cells C 31 (0, 0)) := fun o => (Below.heap_alloc _ _ _ (by omega)).trans h0
      have HG := Lib.hid (And.intro h0 (And.intro h1 hbw))
      clear h0 h1 hbw
      have h3 : k = 0 ∨ k = 1 ∨ k = 2 := by omega
      rcases h3 with rfl | rfl | rfl
      · go_wp2_with (with_reducible show wpList _ _ _ (Oper.mk _ (.load 31 _) _ _ _ _ :: _) _ _; refine wpList_load_row rfl 31 _ rfl _ rfl _ _ _ _ (hq _) Try.underlying31 rfl hi ?_)
        generalize wrap64 (1 + wrap64 ((IntKind.u64.wrap n).tmod 16)) = M at *
        cases hB : s.isB n
        case true =>
          have okS : Db.ok (s.step n ⟨rf, ru, rd, ro, rc⟩) := Db.ok_step HOK.out.1
          have GA := fun wx => FA.out n wx
          have GB := fun wx => FB.out n wx
          have GI := fun wx => FI.out n wx
          have GJ := fun wx => FJ.out n wx
          have e1 : stepS n s ⟨rf, ru, rd, ro, rc⟩ = (s.step n ⟨rf, ru, rd, ro, rc⟩) := by unfold stepS; rw [hB]; rfl
          have e2 : stepE n s = 0 := by unfold stepE; rw [hB]; rfl
          rw [hB] at GI GJ
          simp only [e1, e2] at GA GB
          have GS := fun wx => refIsState_any n (s.step n ⟨rf, ru, rd, ro, rc⟩) wx okS
          rw [Db.isB_step HOK.out.1 hB] at GS
          unfold Db.agg at GS
          clear e1 e2 hB
          generalize (s.step n ⟨rf, ru, rd, ro, rc⟩) = S at *
          have hne := fun wx => neqDb S okS wx
          have hSi := infoDb (Db.size okS)
          have HA := Lib.hid GA
          have HB := Lib.hid GB
          have HI := Lib.hid GI
          have HJ := Lib.hid GJ
          have HS := Lib.hid GS
          clear GA GB GI GJ GS
          refine (HA.out _).mono ?_
          rintro e x1 ⟨rfl, hb1⟩
          clear r0 r1 r2 r3 r4 hq
          have hx1 : Below wr.heap.size wr x1 := ((Below.refl _ _).alloc (Nat.le_refl _) _).trans (hb1.mono (by simp))
          have hs1 : wr.heap.size ≤ x1.heap.size := hx1.size
          have h1 := (hx1.block (w.heap.size + 1) (by omega)).trans HG.out.2.1
          have hq1 : ∀ o, (x1.alloc o).heap[w.heap.size]? = some (.cells C 31 (0, 0)) := fun o => (Below.heap_alloc _ _ _ (by omega)).trans ((hx1.block w.heap.size (by omega)).trans HG.out.1)
          have r0 : x1.cell? ⟨w.heap.size + 1, 0, none⟩ = some (.int .u32 rf) := cell_of_row _ _ _ _ _ (0, 0) h1
          have r1 : x1.cell? ⟨w.heap.size + 1, 1, none⟩ = some (.bool ru) := cell_of_row _ _ _ _ _ (0, 0) h1
          have r2 : x1.cell? ⟨w.heap.size + 1, 2, none⟩ = some (.bool rd) := cell_of_row _ _ _ _ _ (0, 0) h1
          have r3 : x1.cell? ⟨w.heap.size + 1, 3, none⟩ = some (.bool ro) := cell_of_row _ _ _ _ _ (0, 0) h1
          have r4 : x1.cell? ⟨w.heap.size + 1, 4, none⟩ = some (.bool rc) := cell_of_row _ _ _ _ _ (0, 0) h1
          have HX1 := Lib.hid hx1
          have hsx1 : w.heap.size + 1 < x1.heap.size := by omega
          clear hb1 hx1 h1
          go_wp2_with (first | (refine wpList_new_db rfl rfl rfl _ _ rfl S okS rfl rfl ?_) | (with_reducible show wpList _ _ _ (Oper.mk _ (.load 31 _) _ _ _ _ :: _) _ _; refine wpList_load_row rfl 31 _ rfl _ rfl _ _ _ _ (hq1 _) Try.underlying31 rfl hi ?_))
          refine (HB.out _).mono ?_
          rintro e x2 ⟨rfl, hb2⟩
          clear r0 r1 r2 r3 r4 hq1
          have hx2 : Below (x1.heap.size + 1) (x1.alloc (.cells S.cells 31)) x2 := hb2.mono (by simp)
          have hs2 : x1.heap.size + 1 ≤ x2.heap.size := box_sz hx2
          have p1 : x2.heap[x1.heap.size]? = some (.cells S.cells 31 (0, 0)) := (hx2.block _ (by omega)).trans (heap_alloc_new _ _)
          have hx3 := HX1.out.trans ((below_of_new hx2).mono hs1)
          have HX3 := Lib.hid hx3
          have HP1 := Lib.hid p1
          clear hb2 hx2 hx3 p1
          go_wp2_with (refine wpList_new_db rfl rfl rfl _ _ rfl S okS rfl rfl ?_)
          obtain ⟨W, hW⟩ : ∃ W, W = x2.alloc (.cells S.cells 31) := ⟨_, rfl⟩
          rw [← hW]
          have q0 : W.heap[w.heap.size]? = some (.cells C 31 (0, 0)) := by rw [hW]; exact (Below.heap_alloc _ _ _ (by omega)).trans ((HX3.out.block _ (by omega)).trans HG.out.1)
          have q1 : W.heap[w.heap.size + 1]? = some (.cells #[.int .u32 rf, .bool ru, .bool rd, .bool ro, .bool rc] 24 (0, 0)) := by rw [hW]; exact (Below.heap_alloc _ _ _ (by omega)).trans ((HX3.out.block _ (by omega)).trans HG.out.2.1)
          have q2 : W.heap[x1.heap.size]? = some (.cells S.cells 31 (0, 0)) := by rw [hW]; exact (Below.heap_alloc _ _ _ (by omega)).trans HP1.out
          have q3 : W.heap[x2.heap.size]? = some (.cells S.cells 31 (0, 0)) := by rw [hW]; exact heap_alloc_new _ _
          have q4 : Below w.heap.size w W := by rw [hW]; exact (HG.out.2.2.trans (HX3.out.mono (by omega))).alloc (by omega) _
          have q5 : x2.heap.size < W.heap.size := by rw [hW]; simp
          have HQ := Lib.hid (And.intro q0 (And.intro q1 (And.intro q2 (And.intro q3 q4))))
          clear hW q0 q1 q2 q3 q4
          refine Bag.region (fun wx => Below W.heap.size W wx) (by kernel_rfl) (by kernel_rfl) (Below.refl _ _).drew ?_
          iterate 27 (first
              | (apply Bag.walk_yes (by rfl)
                 (intro wx hx K hK
                  first
                    | (with_reducible show Oper.wp _ (Oper.mk _ (.load 31 _) _ _ _ _) _ _ _ _; refine wp_load_row 31 _ rfl _ rfl _ _ _ _ ((hx.block _ (by omega)).trans HQ.out.1) Try.underlying31 rfl (hi) ?_; go_simp; go_at_K; exact hK _ hx)
                    | (with_reducible show Oper.wp _ (Oper.mk _ (.load 31 _) _ _ _ _) _ _ _ _; refine wp_load_row 31 _ rfl _ rfl _ _ _ _ ((hx.block _ (by omega)).trans HQ.out.2.2.1) Try.underlying31 rfl (hSi) ?_; go_simp; go_at_K; exact hK _ hx)
                    | (with_reducible show Oper.wp _ (Oper.mk _ (.load 31 _) _ _ _ _) _ _ _ _; refine wp_load_row 31 _ rfl _ rfl _ _ _ _ ((hx.block _ (by omega)).trans HQ.out.2.2.2.1) Try.underlying31 rfl (hSi) ?_; go_simp; go_at_K; exact hK _ hx)
                    | (go_simp
                       first
                        | (go_at_call 16; (with_reducible refine (HI.out _).mono ?_); rintro e x3 ⟨rfl, hb⟩; exact hK _ (hx.trans (hb.mono hx.size)))
                        | (go_at_call 17; (with_reducible refine (HJ.out _).mono ?_); rintro e x3 ⟨rfl, hb⟩; exact hK _ (hx.trans (hb.mono hx.size)))
                        | (go_at_call 17; (with_reducible refine (HS.out _).mono ?_); rintro e x3 ⟨rfl, hb⟩; exact hK _ (hx.trans (hb.mono hx.size)))
                        | (go_at_K; exact hK _ hx)))
                 rfl)
              | (refine Bag.walk_no (by rfl) ?_; simp only [Act.put, List.setIfInBounds_toArray, List.set_cons_succ, List.set_cons_zero]))
          refine Bag.walk_nil (fun W2 hW2 => ?_)
          have HW2 := Lib.hid hW2
          have hsW := hW2.size
          clear hW2
          go_wp2_with fail
          go_roundw
          case rel => exact ⟨1, by decide, rfl, (HW2.out.block _ (by omega)).trans HQ.out.1, (HW2.out.block _ (by omega)).trans HQ.out.2.1, HQ.out.2.2.2.2.trans (HW2.out.mono (by omega))⟩
          case measure => simp [intOf]
        case false =>
          have okS : Db.ok Db.zero := Db.zero_okD
          have GA := fun wx => FA.out n wx
          have GB := fun wx => FB.out n wx
          have GI := fun wx => FI.out n wx
          have GJ := fun wx => FJ.out n wx
          have e1 : stepS n s ⟨rf, ru, rd, ro, rc⟩ = Db.zero := by unfold stepS; rw [hB]; rfl
          have e2 : stepE n s = 1 := by unfold stepE; rw [hB]; rfl
          rw [hB] at GI GJ
          simp only [e1, e2] at GA GB
          clear e1 e2 hB
          have hne := fun wx => neqDb Db.zero okS wx
          have hSi := infoDb (Db.size okS)
          have HA := Lib.hid GA
          have HB := Lib.hid GB
          have HI := Lib.hid GI
          have HJ := Lib.hid GJ
          clear GA GB GI GJ
          refine (HA.out _).mono ?_
          rintro e x1 ⟨rfl, hb1⟩
          clear r0 r1 r2 r3 r4 hq
          have hx1 : Below wr.heap.size wr x1 := ((Below.refl _ _).alloc (Nat.le_refl _) _).trans (hb1.mono (by simp))
          have hs1 : wr.heap.size ≤ x1.heap.size := hx1.size
          have h1 := (hx1.block (w.heap.size + 1) (by omega)).trans HG.out.2.1
          have hq1 : ∀ o, (x1.alloc o).heap[w.heap.size]? = some (.cells C 31 (0, 0)) := fun o => (Below.heap_alloc _ _ _ (by omega)).trans ((hx1.block w.heap.size (by omega)).trans HG.out.1)
          have r0 : x1.cell? ⟨w.heap.size + 1, 0, none⟩ = some (.int .u32 rf) := cell_of_row _ _ _ _ _ (0, 0) h1
          have r1 : x1.cell? ⟨w.heap.size + 1, 1, none⟩ = some (.bool ru) := cell_of_row _ _ _ _ _ (0, 0) h1
          have r2 : x1.cell? ⟨w.heap.size + 1, 2, none⟩ = some (.bool rd) := cell_of_row _ _ _ _ _ (0, 0) h1
          have r3 : x1.cell? ⟨w.heap.size + 1, 3, none⟩ = some (.bool ro) := cell_of_row _ _ _ _ _ (0, 0) h1
          have r4 : x1.cell? ⟨w.heap.size + 1, 4, none⟩ = some (.bool rc) := cell_of_row _ _ _ _ _ (0, 0) h1
          have HX1 := Lib.hid hx1
          have hsx1 : w.heap.size + 1 < x1.heap.size := by omega
          clear hb1 hx1 h1
          go_wp2_with (first | (refine wpList_new_db rfl rfl rfl _ _ rfl Db.zero okS rfl rfl ?_) | (with_reducible show wpList _ _ _ (Oper.mk _ (.load 31 _) _ _ _ _ :: _) _ _; refine wpList_load_row rfl 31 _ rfl _ rfl _ _ _ _ (hq1 _) Try.underlying31 rfl hi ?_))
          refine (HB.out _).mono ?_
          rintro e x2 ⟨rfl, hb2⟩
          clear r0 r1 r2 r3 r4 hq1
          have hx2 : Below (x1.heap.size + 1) (x1.alloc (.cells Db.zero.cells 31)) x2 := hb2.mono (by simp)
          have hs2 : x1.heap.size + 1 ≤ x2.heap.size := box_sz hx2
          have p1 : x2.heap[x1.heap.size]? = some (.cells Db.zero.cells 31 (0, 0)) := (hx2.block _ (by omega)).trans (heap_alloc_new _ _)
          have hx3 := HX1.out.trans ((below_of_new hx2).mono hs1)
          have HX3 := Lib.hid hx3
          have HP1 := Lib.hid p1
          clear hb2 hx2 hx3 p1
          go_wp2_with (refine wpList_new_db rfl rfl rfl _ _ rfl Db.zero okS rfl rfl ?_)
          obtain ⟨W, hW⟩ : ∃ W, W = x2.alloc (.cells Db.zero.cells 31) := ⟨_, rfl⟩
          rw [← hW]
          have q0 : W.heap[w.heap.size]? = some (.cells C 31 (0, 0)) := by rw [hW]; exact (Below.heap_alloc _ _ _ (by omega)).trans ((HX3.out.block _ (by omega)).trans HG.out.1)
          have q1 : W.heap[w.heap.size + 1]? = some (.cells #[.int .u32 rf, .bool ru, .bool rd, .bool ro, .bool rc] 24 (0, 0)) := by rw [hW]; exact (Below.heap_alloc _ _ _ (by omega)).trans ((HX3.out.block _ (by omega)).trans HG.out.2.1)
          have q2 : W.heap[x1.heap.size]? = some (.cells Db.zero.cells 31 (0, 0)) := by rw [hW]; exact (Below.heap_alloc _ _ _ (by omega)).trans HP1.out
          have q3 : W.heap[x2.heap.size]? = some (.cells Db.zero.cells 31 (0, 0)) := by rw [hW]; exact heap_alloc_new _ _
          have q4 : Below w.heap.size w W := by rw [hW]; exact (HG.out.2.2.trans (HX3.out.mono (by omega))).alloc (by omega) _
          have q5 : x2.heap.size < W.heap.size := by rw [hW]; simp
          have HQ := Lib.hid (And.intro q0 (And.intro q1 (And.intro q2 (And.intro q3 q4))))
          clear hW q0 q1 q2 q3 q4
          refine Bag.region (fun wx => Below W.heap.size W wx) (by kernel_rfl) (by kernel_rfl) (Below.refl _ _).drew ?_
          iterate 27 (first
              | (apply Bag.walk_yes (by rfl)
                 (intro wx hx K hK
                  first
                    | (with_reducible show Oper.wp _ (Oper.mk _ (.load 31 _) _ _ _ _) _ _ _ _; refine wp_load_row 31 _ rfl _ rfl _ _ _ _ ((hx.block _ (by omega)).trans HQ.out.1) Try.underlying31 rfl (hi) ?_; go_simp; go_at_K; exact hK _ hx)
                    | (with_reducible show Oper.wp _ (Oper.mk _ (.load 31 _) _ _ _ _) _ _ _ _; refine wp_load_row 31 _ rfl _ rfl _ _ _ _ ((hx.block _ (by omega)).trans HQ.out.2.2.1) Try.underlying31 rfl (hSi) ?_; go_simp; go_at_K; exact hK _ hx)
                    | (with_reducible show Oper.wp _ (Oper.mk _ (.load 31 _) _ _ _ _) _ _ _ _; refine wp_load_row 31 _ rfl _ rfl _ _ _ _ ((hx.block _ (by omega)).trans HQ.out.2.2.2.1) Try.underlying31 rfl (hSi) ?_; go_simp; go_at_K; exact hK _ hx)
                    | (go_simp
                       first
                        | (go_at_call 16; (with_reducible refine (HI.out _).mono ?_); rintro e x3 ⟨rfl, hb⟩; exact hK _ (hx.trans (hb.mono hx.size)))
                        | (go_at_call 17; (with_reducible refine (HJ.out _).mono ?_); rintro e x3 ⟨rfl, hb⟩; exact hK _ (hx.trans (hb.mono hx.size)))
                        | (go_at_K; exact hK _ hx)))
                 rfl)
              | (refine Bag.walk_no (by rfl) ?_; simp only [Act.put, List.setIfInBounds_toArray, List.set_cons_succ, List.set_cons_zero]))
          refine Bag.walk_nil (fun W2 hW2 => ?_)
          have HW2 := Lib.hid hW2
          have hsW := hW2.size
          clear hW2
          go_wp2_with fail
          go_roundw
          case rel => exact ⟨1, by decide, rfl, (HW2.out.block _ (by omega)).trans HQ.out.1, (HW2.out.block _ (by omega)).trans HQ.out.2.1, HQ.out.2.2.2.2.trans (HW2.out.mono (by omega))⟩
          case measure => simp [intOf]
      · go_wp2_with (with_reducible show wpList _ _ _ (Oper.mk _ (.load 31 _) _ _ _ _ :: _) _ _; refine wpList_load_row rfl 31 _ rfl _ rfl _ _ _ _ (hq _) Try.underlying31 rfl hi ?_)
        generalize wrap64 (1 + wrap64 ((IntKind.u64.wrap n).tmod 16)) = M at *
        cases hB : s.isB 1
        case true =>
          have okS : Db.ok (s.step 1 ⟨rf, ru, rd, ro, rc⟩) := Db.ok_step HOK.out.1
          have GA := fun wx => FA.out 1 wx
          have GB := fun wx => FB.out 1 wx
          have GI := fun wx => FI.out 1 wx
          have GJ := fun wx => FJ.out 1 wx
          have e1 : stepS 1 s ⟨rf, ru, rd, ro, rc⟩ = (s.step 1 ⟨rf, ru, rd, ro, rc⟩) := by unfold stepS; rw [hB]; rfl
          have e2 : stepE 1 s = 0 := by unfold stepE; rw [hB]; rfl
          rw [hB] at GI GJ
          simp only [e1, e2] at GA GB
          have GS := fun wx => refIsState_any 1 (s.step 1 ⟨rf, ru, rd, ro, rc⟩) wx okS
          rw [Db.isB_step HOK.out.1 hB] at GS
          unfold Db.agg at GS
          clear e1 e2 hB
          generalize (s.step 1 ⟨rf, ru, rd, ro, rc⟩) = S at *
          have hne := fun wx => neqDb S okS wx
          have hSi := infoDb (Db.size okS)
          have HA := Lib.hid GA
          have HB := Lib.hid GB
          have HI := Lib.hid GI
          have HJ := Lib.hid GJ
          have HS := Lib.hid GS
          clear GA GB GI GJ GS
          refine (HA.out _).mono ?_
          rintro e x1 ⟨rfl, hb1⟩
          clear r0 r1 r2 r3 r4 hq
          have hx1 : Below wr.heap.size wr x1 := ((Below.refl _ _).alloc (Nat.le_refl _) _).trans (hb1.mono (by simp))
          have hs1 : wr.heap.size ≤ x1.heap.size := hx1.size
          have h1 := (hx1.block (w.heap.size + 1) (by omega)).trans HG.out.2.1
          have hq1 : ∀ o, (x1.alloc o).heap[w.heap.size]? = some (.cells C 31 (0, 0)) := fun o => (Below.heap_alloc _ _ _ (by omega)).trans ((hx1.block w.heap.size (by omega)).trans HG.out.1)
          have r0 : x1.cell? ⟨w.heap.size + 1, 0, none⟩ = some (.int .u32 rf) := cell_of_row _ _ _ _ _ (0, 0) h1
          have r1 : x1.cell? ⟨w.heap.size + 1, 1, none⟩ = some (.bool ru) := cell_of_row _ _ _ _ _ (0, 0) h1
          have r2 : x1.cell? ⟨w.heap.size + 1, 2, none⟩ = some (.bool rd) := cell_of_row _ _ _ _ _ (0, 0) h1
          have r3 : x1.cell? ⟨w.heap.size + 1, 3, none⟩ = some (.bool ro) := cell_of_row _ _ _ _ _ (0, 0) h1
          have r4 : x1.cell? ⟨w.heap.size + 1, 4, none⟩ = some (.bool rc) := cell_of_row _ _ _ _ _ (0, 0) h1
          have HX1 := Lib.hid hx1
          have hsx1 : w.heap.size + 1 < x1.heap.size := by omega
          clear hb1 hx1 h1
          go_wp2_with (first | (refine wpList_new_db rfl rfl rfl _ _ rfl S okS rfl rfl ?_) | (with_reducible show wpList _ _ _ (Oper.mk _ (.load 31 _) _ _ _ _ :: _) _ _; refine wpList_load_row rfl 31 _ rfl _ rfl _ _ _ _ (hq1 _) Try.underlying31 rfl hi ?_))
          refine (HB.out _).mono ?_
          rintro e x2 ⟨rfl, hb2⟩
          clear r0 r1 r2 r3 r4 hq1
          have hx2 : Below (x1.heap.size + 1) (x1.alloc (.cells S.cells 31)) x2 := hb2.mono (by simp)
          have hs2 : x1.heap.size + 1 ≤ x2.heap.size := box_sz hx2
          have p1 : x2.heap[x1.heap.size]? = some (.cells S.cells 31 (0, 0)) := (hx2.block _ (by omega)).trans (heap_alloc_new _ _)
          have hx3 := HX1.out.trans ((below_of_new hx2).mono hs1)
          have HX3 := Lib.hid hx3
          have HP1 := Lib.hid p1
          clear hb2 hx2 hx3 p1
          go_wp2_with (refine wpList_new_db rfl rfl rfl _ _ rfl S okS rfl rfl ?_)
          obtain ⟨W, hW⟩ : ∃ W, W = x2.alloc (.cells S.cells 31) := ⟨_, rfl⟩
          rw [← hW]
          have q0 : W.heap[w.heap.size]? = some (.cells C 31 (0, 0)) := by rw [hW]; exact (Below.heap_alloc _ _ _ (by omega)).trans ((HX3.out.block _ (by omega)).trans HG.out.1)
          have q1 : W.heap[w.heap.size + 1]? = some (.cells #[.int .u32 rf, .bool ru, .bool rd, .bool ro, .bool rc] 24 (0, 0)) := by rw [hW]; exact (Below.heap_alloc _ _ _ (by omega)).trans ((HX3.out.block _ (by omega)).trans HG.out.2.1)
          have q2 : W.heap[x1.heap.size]? = some (.cells S.cells 31 (0, 0)) := by rw [hW]; exact (Below.heap_alloc _ _ _ (by omega)).trans HP1.out
          have q3 : W.heap[x2.heap.size]? = some (.cells S.cells 31 (0, 0)) := by rw [hW]; exact heap_alloc_new _ _
          have q4 : Below w.heap.size w W := by rw [hW]; exact (HG.out.2.2.trans (HX3.out.mono (by omega))).alloc (by omega) _
          have q5 : x2.heap.size < W.heap.size := by rw [hW]; simp
          have HQ := Lib.hid (And.intro q0 (And.intro q1 (And.intro q2 (And.intro q3 q4))))
          clear hW q0 q1 q2 q3 q4
          refine Bag.region (fun wx => Below W.heap.size W wx) (by kernel_rfl) (by kernel_rfl) (Below.refl _ _).drew ?_
          iterate 27 (first
              | (apply Bag.walk_yes (by rfl)
                 (intro wx hx K hK
                  first
                    | (with_reducible show Oper.wp _ (Oper.mk _ (.load 31 _) _ _ _ _) _ _ _ _; refine wp_load_row 31 _ rfl _ rfl _ _ _ _ ((hx.block _ (by omega)).trans HQ.out.1) Try.underlying31 rfl (hi) ?_; go_simp; go_at_K; exact hK _ hx)
                    | (with_reducible show Oper.wp _ (Oper.mk _ (.load 31 _) _ _ _ _) _ _ _ _; refine wp_load_row 31 _ rfl _ rfl _ _ _ _ ((hx.block _ (by omega)).trans HQ.out.2.2.1) Try.underlying31 rfl (hSi) ?_; go_simp; go_at_K; exact hK _ hx)
                    | (with_reducible show Oper.wp _ (Oper.mk _ (.load 31 _) _ _ _ _) _ _ _ _; refine wp_load_row 31 _ rfl _ rfl _ _ _ _ ((hx.block _ (by omega)).trans HQ.out.2.2.2.1) Try.underlying31 rfl (hSi) ?_; go_simp; go_at_K; exact hK _ hx)
                    | (go_simp
                       first
                        | (go_at_call 16; (with_reducible refine (HI.out _).mono ?_); rintro e x3 ⟨rfl, hb⟩; exact hK _ (hx.trans (hb.mono hx.size)))
                        | (go_at_call 17; (with_reducible refine (HJ.out _).mono ?_); rintro e x3 ⟨rfl, hb⟩; exact hK _ (hx.trans (hb.mono hx.size)))
                        | (go_at_call 17; (with_reducible refine (HS.out _).mono ?_); rintro e x3 ⟨rfl, hb⟩; exact hK _ (hx.trans (hb.mono hx.size)))
                        | (go_at_K; exact hK _ hx)))
                 rfl)
              | (refine Bag.walk_no (by rfl) ?_; simp only [Act.put, List.setIfInBounds_toArray, List.set_cons_succ, List.set_cons_zero]))
          refine Bag.walk_nil (fun W2 hW2 => ?_)
          have HW2 := Lib.hid hW2
          have hsW := hW2.size
          clear hW2
          go_wp2_with fail
          go_roundw
          case rel => exact ⟨2, by decide, rfl, (HW2.out.block _ (by omega)).trans HQ.out.1, (HW2.out.block _ (by omega)).trans HQ.out.2.1, HQ.out.2.2.2.2.trans (HW2.out.mono (by omega))⟩
          case measure => simp [intOf]
        case false =>
          have okS : Db.ok Db.zero := Db.zero_okD
          have GA := fun wx => FA.out 1 wx
          have GB := fun wx => FB.out 1 wx
          have GI := fun wx => FI.out 1 wx
          have GJ := fun wx => FJ.out 1 wx
          have e1 : stepS 1 s ⟨rf, ru, rd, ro, rc⟩ = Db.zero := by unfold stepS; rw [hB]; rfl
          have e2 : stepE 1 s = 1 := by unfold stepE; rw [hB]; rfl
          rw [hB] at GI GJ
          simp only [e1, e2] at GA GB
          clear e1 e2 hB
          have hne := fun wx => neqDb Db.zero okS wx
          have hSi := infoDb (Db.size okS)
          have HA := Lib.hid GA
          have HB := Lib.hid GB
          have HI := Lib.hid GI
          have HJ := Lib.hid GJ
          clear GA GB GI GJ
          refine (HA.out _).mono ?_
          rintro e x1 ⟨rfl, hb1⟩
          clear r0 r1 r2 r3 r4 hq
          have hx1 : Below wr.heap.size wr x1 := ((Below.refl _ _).alloc (Nat.le_refl _) _).trans (hb1.mono (by simp))
          have hs1 : wr.heap.size ≤ x1.heap.size := hx1.size
          have h1 := (hx1.block (w.heap.size + 1) (by omega)).trans HG.out.2.1
          have hq1 : ∀ o, (x1.alloc o).heap[w.heap.size]? = some (.cells C 31 (0, 0)) := fun o => (Below.heap_alloc _ _ _ (by omega)).trans ((hx1.block w.heap.size (by omega)).trans HG.out.1)
          have r0 : x1.cell? ⟨w.heap.size + 1, 0, none⟩ = some (.int .u32 rf) := cell_of_row _ _ _ _ _ (0, 0) h1
          have r1 : x1.cell? ⟨w.heap.size + 1, 1, none⟩ = some (.bool ru) := cell_of_row _ _ _ _ _ (0, 0) h1
          have r2 : x1.cell? ⟨w.heap.size + 1, 2, none⟩ = some (.bool rd) := cell_of_row _ _ _ _ _ (0, 0) h1
          have r3 : x1.cell? ⟨w.heap.size + 1, 3, none⟩ = some (.bool ro) := cell_of_row _ _ _ _ _ (0, 0) h1
          have r4 : x1.cell? ⟨w.heap.size + 1, 4, none⟩ = some (.bool rc) := cell_of_row _ _ _ _ _ (0, 0) h1
          have HX1 := Lib.hid hx1
          have hsx1 : w.heap.size + 1 < x1.heap.size := by omega
          clear hb1 hx1 h1
          go_wp2_with (first | (refine wpList_new_db rfl rfl rfl _ _ rfl Db.zero okS rfl rfl ?_) | (with_reducible show wpList _ _ _ (Oper.mk _ (.load 31 _) _ _ _ _ :: _) _ _; refine wpList_load_row rfl 31 _ rfl _ rfl _ _ _ _ (hq1 _) Try.underlying31 rfl hi ?_))
          refine (HB.out _).mono ?_
          rintro e x2 ⟨rfl, hb2⟩
          clear r0 r1 r2 r3 r4 hq1
          have hx2 : Below (x1.heap.size + 1) (x1.alloc (.cells Db.zero.cells 31)) x2 := hb2.mono (by simp)
          have hs2 : x1.heap.size + 1 ≤ x2.heap.size := box_sz hx2
          have p1 : x2.heap[x1.heap.size]? = some (.cells Db.zero.cells 31 (0, 0)) := (hx2.block _ (by omega)).trans (heap_alloc_new _ _)
          have hx3 := HX1.out.trans ((below_of_new hx2).mono hs1)
          have HX3 := Lib.hid hx3
          have HP1 := Lib.hid p1
          clear hb2 hx2 hx3 p1
          go_wp2_with (refine wpList_new_db rfl rfl rfl _ _ rfl Db.zero okS rfl rfl ?_)
          obtain ⟨W, hW⟩ : ∃ W, W = x2.alloc (.cells Db.zero.cells 31) := ⟨_, rfl⟩
          rw [← hW]
          have q0 : W.heap[w.heap.size]? = some (.cells C 31 (0, 0)) := by rw [hW]; exact (Below.heap_alloc _ _ _ (by omega)).trans ((HX3.out.block _ (by omega)).trans HG.out.1)
          have q1 : W.heap[w.heap.size + 1]? = some (.cells #[.int .u32 rf, .bool ru, .bool rd, .bool ro, .bool rc] 24 (0, 0)) := by rw [hW]; exact (Below.heap_alloc _ _ _ (by omega)).trans ((HX3.out.block _ (by omega)).trans HG.out.2.1)
          have q2 : W.heap[x1.heap.size]? = some (.cells Db.zero.cells 31 (0, 0)) := by rw [hW]; exact (Below.heap_alloc _ _ _ (by omega)).trans HP1.out
          have q3 : W.heap[x2.heap.size]? = some (.cells Db.zero.cells 31 (0, 0)) := by rw [hW]; exact heap_alloc_new _ _
          have q4 : Below w.heap.size w W := by rw [hW]; exact (HG.out.2.2.trans (HX3.out.mono (by omega))).alloc (by omega) _
          have q5 : x2.heap.size < W.heap.size := by rw [hW]; simp
          have HQ := Lib.hid (And.intro q0 (And.intro q1 (And.intro q2 (And.intro q3 q4))))
          clear hW q0 q1 q2 q3 q4
          refine Bag.region (fun wx => Below W.heap.size W wx) (by kernel_rfl) (by kernel_rfl) (Below.refl _ _).drew ?_
          iterate 27 (first
              | (apply Bag.walk_yes (by rfl)
                 (intro wx hx K hK
                  first
                    | (with_reducible show Oper.wp _ (Oper.mk _ (.load 31 _) _ _ _ _) _ _ _ _; refine wp_load_row 31 _ rfl _ rfl _ _ _ _ ((hx.block _ (by omega)).trans HQ.out.1) Try.underlying31 rfl (hi) ?_; go_simp; go_at_K; exact hK _ hx)
                    | (with_reducible show Oper.wp _ (Oper.mk _ (.load 31 _) _ _ _ _) _ _ _ _; refine wp_load_row 31 _ rfl _ rfl _ _ _ _ ((hx.block _ (by omega)).trans HQ.out.2.2.1) Try.underlying31 rfl (hSi) ?_; go_simp; go_at_K; exact hK _ hx)
                    | (with_reducible show Oper.wp _ (Oper.mk _ (.load 31 _) _ _ _ _) _ _ _ _; refine wp_load_row 31 _ rfl _ rfl _ _ _ _ ((hx.block _ (by omega)).trans HQ.out.2.2.2.1) Try.underlying31 rfl (hSi) ?_; go_simp; go_at_K; exact hK _ hx)
                    | (go_simp
                       first
                        | (go_at_call 16; (with_reducible refine (HI.out _).mono ?_); rintro e x3 ⟨rfl, hb⟩; exact hK _ (hx.trans (hb.mono hx.size)))
                        | (go_at_call 17; (with_reducible refine (HJ.out _).mono ?_); rintro e x3 ⟨rfl, hb⟩; exact hK _ (hx.trans (hb.mono hx.size)))
                        | (go_at_K; exact hK _ hx)))
                 rfl)
              | (refine Bag.walk_no (by rfl) ?_; simp only [Act.put, List.setIfInBounds_toArray, List.set_cons_succ, List.set_cons_zero]))
          refine Bag.walk_nil (fun W2 hW2 => ?_)
          have HW2 := Lib.hid hW2
          have hsW := hW2.size
          clear hW2
          go_wp2_with fail
          go_roundw
          case rel => exact ⟨2, by decide, rfl, (HW2.out.block _ (by omega)).trans HQ.out.1, (HW2.out.block _ (by omega)).trans HQ.out.2.1, HQ.out.2.2.2.2.trans (HW2.out.mono (by omega))⟩
          case measure => simp [intOf]
      · go_wp2_with (with_reducible show wpList _ _ _ (Oper.mk _ (.load 31 _) _ _ _ _ :: _) _ _; refine wpList_load_row rfl 31 _ rfl _ rfl _ _ _ _ (hq _) Try.underlying31 rfl hi ?_)
        generalize wrap64 (1 + wrap64 ((IntKind.u64.wrap n).tmod 16)) = M at *
        cases hB : s.isB M
        case true =>
          have okS : Db.ok (s.step M ⟨rf, ru, rd, ro, rc⟩) := Db.ok_step HOK.out.1
          have GA := fun wx => FA.out M wx
          have GB := fun wx => FB.out M wx
          have GI := fun wx => FI.out M wx
          have GJ := fun wx => FJ.out M wx
          have e1 : stepS M s ⟨rf, ru, rd, ro, rc⟩ = (s.step M ⟨rf, ru, rd, ro, rc⟩) := by unfold stepS; rw [hB]; rfl
          have e2 : stepE M s = 0 := by unfold stepE; rw [hB]; rfl
          rw [hB] at GI GJ
          simp only [e1, e2] at GA GB
          have GS := fun wx => refIsState_any M (s.step M ⟨rf, ru, rd, ro, rc⟩) wx okS
          rw [Db.isB_step HOK.out.1 hB] at GS
          unfold Db.agg at GS
          clear e1 e2 hB
          generalize (s.step M ⟨rf, ru, rd, ro, rc⟩) = S at *
          have hne := fun wx => neqDb S okS wx
          have hSi := infoDb (Db.size okS)
          have HA := Lib.hid GA
          have HB := Lib.hid GB
          have HI := Lib.hid GI
          have HJ := Lib.hid GJ
          have HS := Lib.hid GS
          clear GA GB GI GJ GS
          refine (HA.out _).mono ?_
          rintro e x1 ⟨rfl, hb1⟩
          clear r0 r1 r2 r3 r4 hq
          have hx1 : Below wr.heap.size wr x1 := ((Below.refl _ _).alloc (Nat.le_refl _) _).trans (hb1.mono (by simp))
          have hs1 : wr.heap.size ≤ x1.heap.size := hx1.size
          have h1 := (hx1.block (w.heap.size + 1) (by omega)).trans HG.out.2.1
          have hq1 : ∀ o, (x1.alloc o).heap[w.heap.size]? = some (.cells C 31 (0, 0)) := fun o => (Below.heap_alloc _ _ _ (by omega)).trans ((hx1.block w.heap.size (by omega)).trans HG.out.1)
          have r0 : x1.cell? ⟨w.heap.size + 1, 0, none⟩ = some (.int .u32 rf) := cell_of_row _ _ _ _ _ (0, 0) h1
          have r1 : x1.cell? ⟨w.heap.size + 1, 1, none⟩ = some (.bool ru) := cell_of_row _ _ _ _ _ (0, 0) h1
          have r2 : x1.cell? ⟨w.heap.size + 1, 2, none⟩ = some (.bool rd) := cell_of_row _ _ _ _ _ (0, 0) h1
          have r3 : x1.cell? ⟨w.heap.size + 1, 3, none⟩ = some (.bool ro) := cell_of_row _ _ _ _ _ (0, 0) h1
          have r4 : x1.cell? ⟨w.heap.size + 1, 4, none⟩ = some (.bool rc) := cell_of_row _ _ _ _ _ (0, 0) h1
          have HX1 := Lib.hid hx1
          have hsx1 : w.heap.size + 1 < x1.heap.size := by omega
          clear hb1 hx1 h1
          go_wp2_with (first | (refine wpList_new_db rfl rfl rfl _ _ rfl S okS rfl rfl ?_) | (with_reducible show wpList _ _ _ (Oper.mk _ (.load 31 _) _ _ _ _ :: _) _ _; refine wpList_load_row rfl 31 _ rfl _ rfl _ _ _ _ (hq1 _) Try.underlying31 rfl hi ?_))
          refine (HB.out _).mono ?_
          rintro e x2 ⟨rfl, hb2⟩
          clear r0 r1 r2 r3 r4 hq1
          have hx2 : Below (x1.heap.size + 1) (x1.alloc (.cells S.cells 31)) x2 := hb2.mono (by simp)
          have hs2 : x1.heap.size + 1 ≤ x2.heap.size := box_sz hx2
          have p1 : x2.heap[x1.heap.size]? = some (.cells S.cells 31 (0, 0)) := (hx2.block _ (by omega)).trans (heap_alloc_new _ _)
          have hx3 := HX1.out.trans ((below_of_new hx2).mono hs1)
          have HX3 := Lib.hid hx3
          have HP1 := Lib.hid p1
          clear hb2 hx2 hx3 p1
          go_wp2_with (refine wpList_new_db rfl rfl rfl _ _ rfl S okS rfl rfl ?_)
          obtain ⟨W, hW⟩ : ∃ W, W = x2.alloc (.cells S.cells 31) := ⟨_, rfl⟩
          rw [← hW]
          have q0 : W.heap[w.heap.size]? = some (.cells C 31 (0, 0)) := by rw [hW]; exact (Below.heap_alloc _ _ _ (by omega)).trans ((HX3.out.block _ (by omega)).trans HG.out.1)
          have q1 : W.heap[w.heap.size + 1]? = some (.cells #[.int .u32 rf, .bool ru, .bool rd, .bool ro, .bool rc] 24 (0, 0)) := by rw [hW]; exact (Below.heap_alloc _ _ _ (by omega)).trans ((HX3.out.block _ (by omega)).trans HG.out.2.1)
          have q2 : W.heap[x1.heap.size]? = some (.cells S.cells 31 (0, 0)) := by rw [hW]; exact (Below.heap_alloc _ _ _ (by omega)).trans HP1.out
          have q3 : W.heap[x2.heap.size]? = some (.cells S.cells 31 (0, 0)) := by rw [hW]; exact heap_alloc_new _ _
          have q4 : Below w.heap.size w W := by rw [hW]; exact (HG.out.2.2.trans (HX3.out.mono (by omega))).alloc (by omega) _
          have q5 : x2.heap.size < W.heap.size := by rw [hW]; simp
          have HQ := Lib.hid (And.intro q0 (And.intro q1 (And.intro q2 (And.intro q3 q4))))
          clear hW q0 q1 q2 q3 q4
          refine Bag.region (fun wx => Below W.heap.size W wx) (by kernel_rfl) (by kernel_rfl) (Below.refl _ _).drew ?_
          iterate 27 (first
              | (apply Bag.walk_yes (by rfl)
                 (intro wx hx K hK
                  first
                    | (with_reducible show Oper.wp _ (Oper.mk _ (.load 31 _) _ _ _ _) _ _ _ _; refine wp_load_row 31 _ rfl _ rfl _ _ _ _ ((hx.block _ (by omega)).trans HQ.out.1) Try.underlying31 rfl (hi) ?_; go_simp; go_at_K; exact hK _ hx)
                    | (with_reducible show Oper.wp _ (Oper.mk _ (.load 31 _) _ _ _ _) _ _ _ _; refine wp_load_row 31 _ rfl _ rfl _ _ _ _ ((hx.block _ (by omega)).trans HQ.out.2.2.1) Try.underlying31 rfl (hSi) ?_; go_simp; go_at_K; exact hK _ hx)
                    | (with_reducible show Oper.wp _ (Oper.mk _ (.load 31 _) _ _ _ _) _ _ _ _; refine wp_load_row 31 _ rfl _ rfl _ _ _ _ ((hx.block _ (by omega)).trans HQ.out.2.2.2.1) Try.underlying31 rfl (hSi) ?_; go_simp; go_at_K; exact hK _ hx)
                    | (go_simp
                       first
                        | (go_at_call 16; (with_reducible refine (HI.out _).mono ?_); rintro e x3 ⟨rfl, hb⟩; exact hK _ (hx.trans (hb.mono hx.size)))
                        | (go_at_call 17; (with_reducible refine (HJ.out _).mono ?_); rintro e x3 ⟨rfl, hb⟩; exact hK _ (hx.trans (hb.mono hx.size)))
                        | (go_at_call 17; (with_reducible refine (HS.out _).mono ?_); rintro e x3 ⟨rfl, hb⟩; exact hK _ (hx.trans (hb.mono hx.size)))
                        | (go_at_K; exact hK _ hx)))
                 rfl)
              | (refine Bag.walk_no (by rfl) ?_; simp only [Act.put, List.setIfInBounds_toArray, List.set_cons_succ, List.set_cons_zero]))
          refine Bag.walk_nil (fun W2 hW2 => ?_)
          have HW2 := Lib.hid hW2
          have hsW := hW2.size
          clear hW2
          go_wp2_with fail
          go_roundw
          case rel => exact ⟨3, by decide, rfl, (HW2.out.block _ (by omega)).trans HQ.out.1, (HW2.out.block _ (by omega)).trans HQ.out.2.1, HQ.out.2.2.2.2.trans (HW2.out.mono (by omega))⟩
          case measure => simp [intOf]
        case false =>
          have okS : Db.ok Db.zero := Db.zero_okD
          have GA := fun wx => FA.out M wx
          have GB := fun wx => FB.out M wx
          have GI := fun wx => FI.out M wx
          have GJ := fun wx => FJ.out M wx
          have e1 : stepS M s ⟨rf, ru, rd, ro, rc⟩ = Db.zero := by unfold stepS; rw [hB]; rfl
          have e2 : stepE M s = 1 := by unfold stepE; rw [hB]; rfl
          rw [hB] at GI GJ
          simp only [e1, e2] at GA GB
          clear e1 e2 hB
          have hne := fun wx => neqDb Db.zero okS wx
          have hSi := infoDb (Db.size okS)
          have HA := Lib.hid GA
          have HB := Lib.hid GB
          have HI := Lib.hid GI
          have HJ := Lib.hid GJ
          clear GA GB GI GJ
          refine (HA.out _).mono ?_
          rintro e x1 ⟨rfl, hb1⟩
          clear r0 r1 r2 r3 r4 hq
          have hx1 : Below wr.heap.size wr x1 := ((Below.refl _ _).alloc (Nat.le_refl _) _).trans (hb1.mono (by simp))
          have hs1 : wr.heap.size ≤ x1.heap.size := hx1.size
          have h1 := (hx1.block (w.heap.size + 1) (by omega)).trans HG.out.2.1
          have hq1 : ∀ o, (x1.alloc o).heap[w.heap.size]? = some (.cells C 31 (0, 0)) := fun o => (Below.heap_alloc _ _ _ (by omega)).trans ((hx1.block w.heap.size (by omega)).trans HG.out.1)
          have r0 : x1.cell? ⟨w.heap.size + 1, 0, none⟩ = some (.int .u32 rf) := cell_of_row _ _ _ _ _ (0, 0) h1
          have r1 : x1.cell? ⟨w.heap.size + 1, 1, none⟩ = some (.bool ru) := cell_of_row _ _ _ _ _ (0, 0) h1
          have r2 : x1.cell? ⟨w.heap.size + 1, 2, none⟩ = some (.bool rd) := cell_of_row _ _ _ _ _ (0, 0) h1
          have r3 : x1.cell? ⟨w.heap.size + 1, 3, none⟩ = some (.bool ro) := cell_of_row _ _ _ _ _ (0, 0) h1
          have r4 : x1.cell? ⟨w.heap.size + 1, 4, none⟩ = some (.bool rc) := cell_of_row _ _ _ _ _ (0, 0) h1
          have HX1 := Lib.hid hx1
          have hsx1 : w.heap.size + 1 < x1.heap.size := by omega
          clear hb1 hx1 h1
          go_wp2_with (first | (refine wpList_new_db rfl rfl rfl _ _ rfl Db.zero okS rfl rfl ?_) | (with_reducible show wpList _ _ _ (Oper.mk _ (.load 31 _) _ _ _ _ :: _) _ _; refine wpList_load_row rfl 31 _ rfl _ rfl _ _ _ _ (hq1 _) Try.underlying31 rfl hi ?_))
          refine (HB.out _).mono ?_
          rintro e x2 ⟨rfl, hb2⟩
          clear r0 r1 r2 r3 r4 hq1
          have hx2 : Below (x1.heap.size + 1) (x1.alloc (.cells Db.zero.cells 31)) x2 := hb2.mono (by simp)
          have hs2 : x1.heap.size + 1 ≤ x2.heap.size := box_sz hx2
          have p1 : x2.heap[x1.heap.size]? = some (.cells Db.zero.cells 31 (0, 0)) := (hx2.block _ (by omega)).trans (heap_alloc_new _ _)
          have hx3 := HX1.out.trans ((below_of_new hx2).mono hs1)
          have HX3 := Lib.hid hx3
          have HP1 := Lib.hid p1
          clear hb2 hx2 hx3 p1
          go_wp2_with (refine wpList_new_db rfl rfl rfl _ _ rfl Db.zero okS rfl rfl ?_)
          obtain ⟨W, hW⟩ : ∃ W, W = x2.alloc (.cells Db.zero.cells 31) := ⟨_, rfl⟩
          rw [← hW]
          have q0 : W.heap[w.heap.size]? = some (.cells C 31 (0, 0)) := by rw [hW]; exact (Below.heap_alloc _ _ _ (by omega)).trans ((HX3.out.block _ (by omega)).trans HG.out.1)
          have q1 : W.heap[w.heap.size + 1]? = some (.cells #[.int .u32 rf, .bool ru, .bool rd, .bool ro, .bool rc] 24 (0, 0)) := by rw [hW]; exact (Below.heap_alloc _ _ _ (by omega)).trans ((HX3.out.block _ (by omega)).trans HG.out.2.1)
          have q2 : W.heap[x1.heap.size]? = some (.cells Db.zero.cells 31 (0, 0)) := by rw [hW]; exact (Below.heap_alloc _ _ _ (by omega)).trans HP1.out
          have q3 : W.heap[x2.heap.size]? = some (.cells Db.zero.cells 31 (0, 0)) := by rw [hW]; exact heap_alloc_new _ _
          have q4 : Below w.heap.size w W := by rw [hW]; exact (HG.out.2.2.trans (HX3.out.mono (by omega))).alloc (by omega) _
          have q5 : x2.heap.size < W.heap.size := by rw [hW]; simp
          have HQ := Lib.hid (And.intro q0 (And.intro q1 (And.intro q2 (And.intro q3 q4))))
          clear hW q0 q1 q2 q3 q4
          refine Bag.region (fun wx => Below W.heap.size W wx) (by kernel_rfl) (by kernel_rfl) (Below.refl _ _).drew ?_
          iterate 27 (first
              | (apply Bag.walk_yes (by rfl)
                 (intro wx hx K hK
                  first
                    | (with_reducible show Oper.wp _ (Oper.mk _ (.load 31 _) _ _ _ _) _ _ _ _; refine wp_load_row 31 _ rfl _ rfl _ _ _ _ ((hx.block _ (by omega)).trans HQ.out.1) Try.underlying31 rfl (hi) ?_; go_simp; go_at_K; exact hK _ hx)
                    | (with_reducible show Oper.wp _ (Oper.mk _ (.load 31 _) _ _ _ _) _ _ _ _; refine wp_load_row 31 _ rfl _ rfl _ _ _ _ ((hx.block _ (by omega)).trans HQ.out.2.2.1) Try.underlying31 rfl (hSi) ?_; go_simp; go_at_K; exact hK _ hx)
                    | (with_reducible show Oper.wp _ (Oper.mk _ (.load 31 _) _ _ _ _) _ _ _ _; refine wp_load_row 31 _ rfl _ rfl _ _ _ _ ((hx.block _ (by omega)).trans HQ.out.2.2.2.1) Try.underlying31 rfl (hSi) ?_; go_simp; go_at_K; exact hK _ hx)
                    | (go_simp
                       first
                        | (go_at_call 16; (with_reducible refine (HI.out _).mono ?_); rintro e x3 ⟨rfl, hb⟩; exact hK _ (hx.trans (hb.mono hx.size)))
                        | (go_at_call 17; (with_reducible refine (HJ.out _).mono ?_); rintro e x3 ⟨rfl, hb⟩; exact hK _ (hx.trans (hb.mono hx.size)))
                        | (go_at_K; exact hK _ hx)))
                 rfl)
              | (refine Bag.walk_no (by rfl) ?_; simp only [Act.put, List.setIfInBounds_toArray, List.set_cons_succ, List.set_cons_zero]))
          refine Bag.walk_nil (fun W2 hW2 => ?_)
          have HW2 := Lib.hid hW2
          have hsW := hW2.size
          clear hW2
          go_wp2_with fail
          go_roundw
          case rel => exact ⟨3, by decide, rfl, (HW2.out.block _ (by omega)).trans HQ.out.1, (HW2.out.block _ (by omega)).trans HQ.out.2.1, HQ.out.2.2.2.2.trans (HW2.out.mono (by omega))⟩
          case measure => simp [intOf]
    · obtain rfl : k = 3 := by omega
      have HBW := Lib.hid hbw
      clear hbw h0 h1
      go_wp2_with fail
      refine (sane_any _).mono ?_
      rintro e w2 ⟨rfl, hb2⟩
      go_wp2_with fail
      go_ret
      exact ⟨rfl, HBW.out.trans (hb2.mono HBW.out.size)⟩

set_option maxRecDepth 100000 in
theorem lawContactSteps_lifted (os : Os) (started : os.Started) (H : Type) (enc : TypeId × Value → H) :
    ReturnsInHanded {} Try.checked os 4 .any (Rows.contactStepsSpec.pre6 enc Try.prog Try.f4 Rows.contactStepsRow.domain false) (Rows.contactStepsSpec.post enc Try.prog Try.f4 false true false false) := by
  refine returnsInHanded_of_change (C := Try.checked) own started (by kernel_rfl) Try.func4
    (ChangeSpec.witness6 (enc := enc) (C := Try.checked) false ⟨#[], #[.int .i64 0, .agg #[.int .u32 0, .bool false, .bool false, .bool false, .bool false, .int .i64 0, .int .i64 0, .int .i64 0, .int .i64 0, .int .i64 0, .int .i64 0, .int .i64 0, .int .i64 0, .int .i64 0, .int .i64 0, .int .i64 0, .int .i64 0, .int .i64 0, .int .i64 0, .int .i64 0, .int .i64 0, .int .i64 0, .int .i64 0, .int .i64 0, .int .i64 0, .int .i64 0, .int .i64 0, .int .i64 0, .int .i64 0, .int .i64 0, .int .i64 0, .int .i64 0, .int .i64 0, .int .i64 0, .int .i64 0, .int .i64 0, .int .i64 0, .int .i64 0, .int .i64 0, .int .i64 0, .int .i64 0], .agg #[.int .u32 0, .bool false, .bool false, .bool false, .bool false]], []⟩ 8 (by kernel_rfl) (by kernel_rfl) (by kernel_rfl) (by kernel_rfl)) ?_
  intro W base args ds gs before hval0 hW hcnd _
  have hval : ∀ (j : Nat) t v, Try.f4.params[j]? = some t → args[j]? = some v → Value.okWide Try.prog W .any base t v := hval0
  have hW' := hW
  obtain ⟨p, q, hA0, hV, rfl, hfz, hnd⟩ := hW
  have hA : DataW.TrodAll enc Try.prog W 0 (fun _ => true) true Try.f4.params.toList args.toList ds p := hA0
  rw [Try.params4] at hA hval
  obtain ⟨v0, vs0, d0, ds0, p0, q0, hargs, rfl, rfl, h0, r0⟩ := trodAll_cons hA
  obtain ⟨v1, vs1, d1, ds1, p1, q1, rfl, rfl, rfl, h1, r1⟩ := trodAll_cons r0
  obtain ⟨v2, vs2, d2, ds2, p2, q2, rfl, rfl, rfl, h2, r2⟩ := trodAll_cons r1
  obtain ⟨rfl, rfl, rfl⟩ := trodAll_nil r2
  obtain rfl : args = #[v0, v1, v2] := by cases args; simp_all
  obtain ⟨rfl, rfl⟩ := trodVars_none hV
  obtain ⟨x0, rfl, rfl, rfl, g0⟩ := open_int Try.underlying3 (hval 0 3 v0 rfl rfl) h0
  have k1 := h1
  have lt1 : ∀ x ∈ p1, x.block < W.heap.size := by obtain ⟨m, hm⟩ := k1; exact DataW.trod_lt m _ _ _ hm
  obtain ⟨x1, rfl, g1⟩ := open_db (hval 1 31 v1 rfl rfl) h1
  have k2 := h2
  have lt2 : ∀ x ∈ p2, x.block < W.heap.size := by obtain ⟨m, hm⟩ := k2; exact DataW.trod_lt m _ _ _ hm
  obtain ⟨x2, rfl, g2⟩ := open_ct (hval 2 24 v2 rfl rfl) h2
  clear hA0 hval0
  refine (lawContactSteps_walk x0 x1 x2 W g0 g1 g2).mono fun e W' ⟨he, bel⟩ => ?_
  subst he
  exact ⟨_, rfl, _, _, _, [], _, [], hW', trodAll_mk1 (shut_bool Try.underlying4 _), (trodAll_cons_mk (shut_int Try.underlying3 g0) (trodAll_cons_mk (Below.trod laidOut (by kernel_rfl) (of_decide_eq_true (by kernel_rfl)) k1 bel lt1) (trodAll_cons_mk (Below.trod laidOut (by kernel_rfl) (of_decide_eq_true (by kernel_rfl)) k2 bel lt2) trodAll_mk0))), rfl, bel.frame _, fun h => by cases h⟩

theorem lawContactSteps_over : Rows.contactStepsRow.holds Try.pinned (OpenSpec.ofChange Rows.contactStepsSpec) :=
  OpenClaim.holds_of_wide 4 Try.f4 rfl rfl rfl rfl rfl rfl rfl ⟨rfl, rfl, rfl, rfl, rfl⟩ rfl rfl rfl rfl rfl (by kernel_rfl) Try.func4 (by kernel_rfl)
    (of_decide_eq_true (by kernel_rfl)) (by unfold Func.isWrapper; first | (rw [if_pos (by decide +kernel)]; kernel_rfl) | (rw [if_neg (by decide +kernel)]; exact ⟨rfl, rfl⟩))
    (fun os started H enc _ => lawContactSteps_lifted os started H enc)

theorem contactSteps_holds : Rows.ContactStepsSaid := lawContactSteps_over
#print axioms contactSteps_holds

end Go.Proofs.Ytcobcefefifmcaa
