/- Of of calls and of the reference. No statement of the seat is proved here. -/
import Derived.Test.YtclkfclbnapamaaCsList
import Derived.Test.YtclkfclbnapamaaPut
namespace Go.Proofs.Ytclkfclbnapamaa
open Go.RowKit

theorem ofT_zero (l : List En) : Cs.of (l.take 0) = ⟨0, 0⟩ := rfl
theorem ofT_end (l : List En) : Cs.of (l.take l.length) = Cs.of l := by rw [List.take_length]
theorem ofT_succ (l : List En) {k : Nat} (h : k < l.length) : Cs.of (l.take (k + 1)) = Cs.union (Cs.of (l.take k)) (Cs.one (l[k]).f (l[k]).d) := by rw [← List.take_append_getElem h, Cs.of_snoc]

set_option maxHeartbeats 4000000 in
theorem of_any (l : List En) (A : Option Addr) (cap : Nat) (w : World) (hA : EAt w A l) (hl : l.length ≤ 1000000) :
    Calls Try.prog 27 #[.slice A l.length cap] w fun e w' => e = .returned (Cs.of l).agg ∧ Below w.heap.size w w' := by
  have HA := Lib.hid hA
  have hE := ofT_end l
  have hZ := ofT_zero l
  have hS := fun k (h : k < l.length) => ofT_succ l h
  have FU := Lib.hid (fun k f d w => union_any (Cs.of (l.take k)) (Cs.one f d) w (Cs.of_ok _) (Cs.one_ok _ _))
  have FO := Lib.hid (fun f d w => one_any f d w)
  generalize hO : (fun k => Cs.of (l.take k)) = O at *
  have hO' : ∀ k, Cs.of (l.take k) = O k := fun k => congrFun hO k
  simp only [hO'] at hE hZ hS FU
  have HE := Lib.hid (And.intro hE (And.intro hZ hS))
  clear hE hZ hS hO hO' hA
  generalize Cs.of l = R at *
  simp only [Cs.agg] at *
  go_enter Try.func27, Try.ntmps27
  go_wp2_with fail
  have hW0 : ((w.alloc (.cells #[.int .u32 0, .int .u32 0] 24)).alloc (.cells #[.int .u32 0, .int .u32 0] 24)).heap[w.heap.size + 1]? = some (.cells #[.int .u32 (O 0).up, .int .u32 (O 0).dn] 24 (0, 0)) := by rw [HE.out.2.1]; exact last2 w _ _
  have HW0 := Lib.hid hW0
  clear hW0
  go_loopw [9, 5] (fun v _ wr => ∃ k : Nat, k ≤ l.length ∧ v = .int .i64 k ∧ Lit (w.heap.size + 1) (w.alloc (.cells #[.int .u32 0, .int .u32 0] 24)) (w.heap.size + 1) (.cells #[.int .u32 (O k).up, .int .u32 (O k).dn] 24 (0, 0)) wr) (fun v _ _ => l.length - (intOf v).toNat)
  case atStart => exact ⟨0, Nat.zero_le _, rfl, ⟨(Below.refl _ _).alloc (by simp) _, by simp, HW0.out⟩⟩
  case round =>
    obtain ⟨k, hk, rfl, hL⟩ := hrel
    have hlt1 := hL.lt
    have HL := Lib.hid hL
    clear hL
    by_cases hlt : k < l.length
    · have hbw : Below w.heap.size w wr := below_of_new HL.out.below
      obtain ⟨b, off, rfl, hb, r0, r1, r2, r3, r4⟩ := (HA.out.below hbw).at_ hlt
      have hb0 : b < w.heap.size := by
        rcases HA.out with h | ⟨b2, off2, e, hr⟩
        · rw [h] at hlt; exact absurd hlt (Nat.not_lt_zero _)
        · obtain ⟨rfl, rfl, -⟩ : b = b2 ∧ off = off2 ∧ True := by injection e with e; injection e with e1 e2 e3; exact ⟨e1, e2, trivial⟩
          exact World.block_lt_of_cell? w _ (hr (k * 5 + 0) _ (flatE_get l k hlt 0 (by omega)))
      have hS := HE.out.2.2 k hlt
      have F1 := Lib.hid (fun w => FO.out (l[k]).f (l[k]).d w)
      have F2 := Lib.hid (fun w => FU.out k (l[k]).f (l[k]).d w)
      rw [← hS] at F2
      clear hS hbw
      generalize l[k] = x at *
      obtain ⟨xf, xd, xc, xm, xb⟩ := x
      generalize Cs.one xf xd = B1 at *
      obtain ⟨b1, b2⟩ := B1
      generalize hS1 : O (k + 1) = S1 at *
      have HS1 := Lib.hid hS1
      generalize hS0 : O k = S0 at *
      clear hS1 hS0
      obtain ⟨n1, n2⟩ := S1
      obtain ⟨s1, s2⟩ := S0
      simp only at HL F1 F2 r0 r1 r2 r3 r4
      have hd : decide ((k : Int) < (l.length : Int)) = true := decide_eq_true (by omega)
      go_wp2_with fail
      refine Chain.chain (fun p wx => Put (wr.alloc (.cells #[.int .i64 xf, .int .i64 xd, .int .i64 xc, .int .i64 xm, .bool xb] 38)) (w.heap.size + 1) (.cells (if p = 0 then #[.int .u32 s1, .int .u32 s2] else #[.int .u32 n1, .int .u32 n2]) 24 (0, 0)) wx) (fun _ _ => False) [7] (by kernel_rfl) (by kernel_rfl) (fun _ _ _ _ h => h.elim) ((Put.start ((Below.heap_alloc _ _ _ hlt1).trans HL.out.row)).drew) ?_
      iterate 7 (first
          | (apply Chain.walk_quiet (by rfl) (by decide)
             (intro p wx hp hwn hx K hK
              obtain rfl : p = 0 := (by rcases Nat.lt_or_ge p 1 with h | h; exact Nat.lt_one_iff.1 h; obtain rfl : p = 1 := Nat.le_antisymm hp h; exact absurd ((Eq.symm (show _ = false by kernel_rfl)).trans hwn) Bool.false_ne_true)
              have z0 := hx.cell 0
              have z1 := hx.cell 1
              simp only [if_true, List.getElem?_toArray, List.getElem?_cons_zero, List.getElem?_cons_succ] at z0 z1
              have y0 := (hx.cellOf (k := wr.heap.size) (i := 0) (by simp) (by omega)).trans (cell_of_row _ _ _ _ _ (0, 0) (last1 wr _))
              have y1 := (hx.cellOf (k := wr.heap.size) (i := 1) (by simp) (by omega)).trans (cell_of_row _ _ _ _ _ (0, 0) (last1 wr _))
              simp only [List.getElem?_toArray, List.getElem?_cons_zero, List.getElem?_cons_succ] at y0 y1
              first
                | (go_simp
                   first
                    | (go_at_call 20; with_reducible refine (F1.out _).mono ?_; rintro e x1 ⟨rfl, hb'⟩; exact hK _ (hx.next hb'))
                    | (go_at_call 7; with_reducible refine (F2.out _).mono ?_; rintro e x1 ⟨rfl, hb'⟩; exact hK _ (hx.next hb'))
                    | (go_at_K; exact hK _ hx)))
             exact ⟨_, rfl⟩)
          | (refine Chain.walk_no (by rfl) (by decide) ?_; simp only [Act.put, List.setIfInBounds_toArray, List.set_cons_succ, List.set_cons_zero]))
      apply Chain.walk_turn 0 (by rfl) (by rfl)
      · intro wx hx K hK
        exact Put.store 24 _ _ rfl rfl rfl hx (by kernel_rfl) rfl (by kernel_rfl) (fun w2 h => hK w2 h)
      · exact ⟨undef, rfl⟩
      refine Chain.walk_nil (fun w9 hB => ?_)
      replace hB : Put (wr.alloc (.cells #[.int .i64 xf, .int .i64 xd, .int .i64 xc, .int .i64 xm, .bool xb] 38)) (w.heap.size + 1) (.cells #[.int .u32 n1, .int .u32 n2] 24 (0, 0)) w9 := hB
      simp only [Act.put]
      have hL9 : Lit (w.heap.size + 1) (w.alloc (.cells #[.int .u32 0, .int .u32 0] 24)) (w.heap.size + 1) (.cells #[.int .u32 n1, .int .u32 n2] 24 (0, 0)) w9 :=
        ⟨HL.out.below.trans (((Below.refl _ _).alloc (by omega) _).trans <| hB.below (Nat.le_refl _) (by simp; omega)), Nat.le_trans HL.out.size (Nat.le_trans (by simp) hB.size), hB.row⟩
      have HL9 := Lib.hid hL9
      clear hL9 hB
      go_wp2_with fail
      go_roundw
      case rel => exact ⟨k + 1, by omega, by go_num, by rw [HS1.out]; exact HL9.out⟩
      case measure => simp [intOf]; omega
    · obtain rfl : k = l.length := by omega
      rw [HE.out.1] at HL
      obtain ⟨r1, r2⟩ := R
      have hr1 : wr.heap[w.heap.size]? = some (.cells #[.int .u32 0, .int .u32 0] 24 (0, 0)) := (HL.out.below.block _ (by omega)).trans (last1 w _)
      have z0 := HL.out.cell 0
      have z1 := HL.out.cell 1
      simp only [List.getElem?_toArray, List.getElem?_cons_zero, List.getElem?_cons_succ] at z0 z1
      have hL1 : Lit w.heap.size w w.heap.size (.cells #[.int .u32 0, .int .u32 0] 24 (0, 0)) wr := ⟨below_of_new HL.out.below, by omega, hr1⟩
      have y0 := hL1.cell 0
      have y1 := hL1.cell 1
      simp only [List.getElem?_toArray, List.getElem?_cons_zero, List.getElem?_cons_succ] at y0 y1
      have q0 := hL1.free 0
      have q1 := hL1.free 1
      have HL1 := Lib.hid hL1
      clear hL1 hr1
      go_wp2
      have hE9 := HL1.out.put2 (Nat.le_refl _) rfl (.int .u32 r1) (.int .u32 r2)
      exact bodyPost_ret (results_cell_row Try.results27 _ _ _ _ _ (0, 0) _ rfl (hE9.row) Try.underlying24 rfl (by kernel_rfl)) rfl (⟨rfl, hE9.below⟩)

set_option maxHeartbeats 4000000 in
theorem refOf_any (l : List En) (A : Option Addr) (cap : Nat) (w : World) (hA : EAt w A l) (hl : l.length ≤ 1000000) :
    Calls Try.prog 28 #[.slice A l.length cap] w fun e w' => e = .returned (Cs.of l).agg ∧ Below w.heap.size w w' := by
  have HA := Lib.hid hA
  have hE := ofT_end l
  have hZ := ofT_zero l
  have hS := fun k (h : k < l.length) => ofT_succ l h
  have FU := Lib.hid (fun k f d w => refUnion_any (Cs.of (l.take k)) (Cs.one f d) w (Cs.of_ok _) (Cs.one_ok _ _))
  have FO := Lib.hid (fun f d w => refOne_any f d w)
  generalize hO : (fun k => Cs.of (l.take k)) = O at *
  have hO' : ∀ k, Cs.of (l.take k) = O k := fun k => congrFun hO k
  simp only [hO'] at hE hZ hS FU
  have HE := Lib.hid (And.intro hE (And.intro hZ hS))
  clear hE hZ hS hO hO' hA
  generalize Cs.of l = R at *
  simp only [Cs.agg] at *
  go_enter Try.func28, Try.ntmps28
  go_wp2_with fail
  have hW0 : ((w.alloc (.cells #[.int .u32 0, .int .u32 0] 24)).alloc (.cells #[.int .u32 0, .int .u32 0] 24)).heap[w.heap.size + 1]? = some (.cells #[.int .u32 (O 0).up, .int .u32 (O 0).dn] 24 (0, 0)) := by rw [HE.out.2.1]; exact last2 w _ _
  have HW0 := Lib.hid hW0
  clear hW0
  go_loopw [4] (fun v wr => ∃ k : Nat, k ≤ l.length ∧ v = .int .i64 k ∧ Lit (w.heap.size + 1) (w.alloc (.cells #[.int .u32 0, .int .u32 0] 24)) (w.heap.size + 1) (.cells #[.int .u32 (O k).up, .int .u32 (O k).dn] 24 (0, 0)) wr) (fun v _ => l.length - (intOf v).toNat)
  case atStart => exact ⟨0, Nat.zero_le _, rfl, ⟨(Below.refl _ _).alloc (by simp) _, by simp, HW0.out⟩⟩
  case round =>
    obtain ⟨k, hk, rfl, hL⟩ := hrel
    have hlt1 := hL.lt
    have HL := Lib.hid hL
    clear hL
    by_cases hlt : k < l.length
    · have hbw : Below w.heap.size w wr := below_of_new HL.out.below
      obtain ⟨b, off, rfl, hb, r0, r1, r2, r3, r4⟩ := (HA.out.below hbw).at_ hlt
      have hb0 : b < w.heap.size := by
        rcases HA.out with h | ⟨b2, off2, e, hr⟩
        · rw [h] at hlt; exact absurd hlt (Nat.not_lt_zero _)
        · obtain ⟨rfl, rfl, -⟩ : b = b2 ∧ off = off2 ∧ True := by injection e with e; injection e with e1 e2 e3; exact ⟨e1, e2, trivial⟩
          exact World.block_lt_of_cell? w _ (hr (k * 5 + 0) _ (flatE_get l k hlt 0 (by omega)))
      have hS := HE.out.2.2 k hlt
      have F1 := Lib.hid (fun w => FO.out (l[k]).f (l[k]).d w)
      have F2 := Lib.hid (fun w => FU.out k (l[k]).f (l[k]).d w)
      rw [← hS] at F2
      clear hS hbw
      generalize l[k] = x at *
      obtain ⟨xf, xd, xc, xm, xb⟩ := x
      generalize Cs.one xf xd = B1 at *
      obtain ⟨b1, b2⟩ := B1
      generalize hS1 : O (k + 1) = S1 at *
      have HS1 := Lib.hid hS1
      generalize hS0 : O k = S0 at *
      clear hS1 hS0
      obtain ⟨n1, n2⟩ := S1
      obtain ⟨s1, s2⟩ := S0
      simp only at HL F1 F2 r0 r1 r2 r3 r4
      have hd : decide ((k : Int) < (l.length : Int)) = true := decide_eq_true (by omega)
      go_wp2_with fail
      refine Chain.chain (fun p wx => Put (wr) (w.heap.size + 1) (.cells (if p = 0 then #[.int .u32 s1, .int .u32 s2] else #[.int .u32 n1, .int .u32 n2]) 24 (0, 0)) wx) (fun _ _ => False) [13] (by kernel_rfl) (by kernel_rfl) (fun _ _ _ _ h => h.elim) ((Put.start HL.out.row).drew) ?_
      iterate 13 (first
          | (apply Chain.walk_quiet (by rfl) (by decide)
             (intro p wx hp hwn hx K hK
              obtain rfl : p = 0 := (by rcases Nat.lt_or_ge p 1 with h | h; exact Nat.lt_one_iff.1 h; obtain rfl : p = 1 := Nat.le_antisymm hp h; exact absurd ((Eq.symm (show _ = false by kernel_rfl)).trans hwn) Bool.false_ne_true)
              have z0 := hx.cell 0
              have z1 := hx.cell 1
              simp only [if_true, List.getElem?_toArray, List.getElem?_cons_zero, List.getElem?_cons_succ] at z0 z1
              have y0 := (hx.cellOf (k := b) (i := off + k * 5) hb (by omega)).trans r0
              have y1 := (hx.cellOf (k := b) (i := off + k * 5 + 1) hb (by omega)).trans r1
              first
                | (go_simp
                   first
                    | (go_at_call 21; with_reducible refine (F1.out _).mono ?_; rintro e x1 ⟨rfl, hb'⟩; exact hK _ (hx.next hb'))
                    | (go_at_call 8; with_reducible refine (F2.out _).mono ?_; rintro e x1 ⟨rfl, hb'⟩; exact hK _ (hx.next hb'))
                    | (go_at_K; exact hK _ hx)))
             exact ⟨_, rfl⟩)
          | (refine Chain.walk_no (by rfl) (by decide) ?_; simp only [Act.put, List.setIfInBounds_toArray, List.set_cons_succ, List.set_cons_zero]))
      apply Chain.walk_turn 0 (by rfl) (by rfl)
      · intro wx hx K hK
        exact Put.store 24 _ _ rfl rfl rfl hx (by kernel_rfl) rfl (by kernel_rfl) (fun w2 h => hK w2 h)
      · exact ⟨undef, rfl⟩
      refine Chain.walk_nil (fun w9 hB => ?_)
      replace hB : Put (wr) (w.heap.size + 1) (.cells #[.int .u32 n1, .int .u32 n2] 24 (0, 0)) w9 := hB
      simp only [Act.put]
      have hL9 : Lit (w.heap.size + 1) (w.alloc (.cells #[.int .u32 0, .int .u32 0] 24)) (w.heap.size + 1) (.cells #[.int .u32 n1, .int .u32 n2] 24 (0, 0)) w9 :=
        ⟨HL.out.below.trans (hB.below (Nat.le_refl _) (by omega)), Nat.le_trans HL.out.size (Nat.le_trans (Nat.le_refl _) hB.size), hB.row⟩
      have HL9 := Lib.hid hL9
      clear hL9 hB
      go_wp2_with fail
      go_roundw
      case rel => exact ⟨k + 1, by omega, by go_num, by rw [HS1.out]; exact HL9.out⟩
      case measure => simp [intOf]; omega
    · obtain rfl : k = l.length := by omega
      rw [HE.out.1] at HL
      obtain ⟨r1, r2⟩ := R
      have hr1 : wr.heap[w.heap.size]? = some (.cells #[.int .u32 0, .int .u32 0] 24 (0, 0)) := (HL.out.below.block _ (by omega)).trans (last1 w _)
      have z0 := HL.out.cell 0
      have z1 := HL.out.cell 1
      simp only [List.getElem?_toArray, List.getElem?_cons_zero, List.getElem?_cons_succ] at z0 z1
      have hL1 : Lit w.heap.size w w.heap.size (.cells #[.int .u32 0, .int .u32 0] 24 (0, 0)) wr := ⟨below_of_new HL.out.below, by omega, hr1⟩
      have y0 := hL1.cell 0
      have y1 := hL1.cell 1
      simp only [List.getElem?_toArray, List.getElem?_cons_zero, List.getElem?_cons_succ] at y0 y1
      have q0 := hL1.free 0
      have q1 := hL1.free 1
      have HL1 := Lib.hid hL1
      clear hL1 hr1
      go_wp2
      have hE9 := HL1.out.put2 (Nat.le_refl _) rfl (.int .u32 r1) (.int .u32 r2)
      exact bodyPost_ret (results_cell_row Try.results28 _ _ _ _ _ (0, 0) _ rfl (hE9.row) Try.underlying24 rfl (by kernel_rfl)) rfl (⟨rfl, hE9.below⟩)
end Go.Proofs.Ytclkfclbnapamaa
