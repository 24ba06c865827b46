/- Decode of the indicator and of the reference. No statement of the seat is proved here. -/
import Derived.Test.YtimaidiabjkgkaaDoorIndObs
import Derived.Test.YtimaidiabjkgkaaDoorLit
namespace Go.Proofs.YtimaidiabjkgkaaDoor
open Go.RowKit

theorem two_nat (a b : Bool) : ∃ k : Nat, k < 4 ∧ Ind.two a b = (k : Int) := by cases a <;> cases b; exact ⟨0, by omega, rfl⟩; exact ⟨2, by omega, rfl⟩; exact ⟨1, by omega, rfl⟩; exact ⟨3, by omega, rfl⟩

set_option maxHeartbeats 2000000 in
theorem decode_any (n : Int) (c : Ct) (w : World) (hc : c.ok) (hT : Tabs w) :
    Calls Tryd.prog 11 #[.int .i64 n, c.agg] w fun e w' => e = .returned (Ind.decode n c).agg ∧ Below w.heap.size w w' := by
  have hbx := fun (wx : World) (h : Below (w.heap.size + 1) (w.alloc (.cells #[.int .u32 c.fl, .bool c.up, .bool c.dn, .bool c.opn, .bool c.cls] 28)) wx) => boxCt h
  have HBX := Lib.hid hbx
  clear hbx
  have HT := Lib.hid (fun (w1 : World) (hb : Below w.heap.size w w1) => hT.below hb)
  have F := Lib.hid (fun w hT => floor_any n c.fl hc w hT)
  have G1 := Lib.hid (fun w => place_any c.up c.dn w)
  have G2 := Lib.hid (fun w => place_any c.opn c.cls w)
  clear hc hT
  obtain ⟨fl, u, d, o, x⟩ := c
  simp only [Ct.agg, Ob.agg, Ind.decode]
  simp only at HBX F G1 G2
  obtain ⟨j, hj, ej⟩ := two_nat u d
  obtain ⟨k, hk, ek⟩ := two_nat o x
  rw [ej] at G1 ⊢
  rw [ek] at G2 ⊢
  generalize Ind.floorI n fl = fi at *
  clear ej ek
  have j0 : (0 : Int) ≤ (j : Int) := by omega
  have j4 : (j : Int) < 4 := by omega
  have k0 : (0 : Int) ≤ (k : Int) := by omega
  have k4 : (k : Int) < 4 := by omega
  go_enter Tryd.func11, Tryd.ntmps11
  go_wp2_with fail
  refine Chain.chain (fun p wx => Lit (w.heap.size + 1) (w.alloc (.cells #[.int .u32 fl, .bool u, .bool d, .bool o, .bool x] 28)) (w.heap.size + 1) (.cells (if p = 0 then #[.int .i64 0, .int .i64 0, .int .i64 0] else #[.int .i64 fi, .int .i64 (j : Int), .int .i64 (k : Int)]) 31 (0, 0)) wx) (fun _ _ => False) [19] (by kernel_rfl) (by kernel_rfl) (fun _ _ _ _ h => h.elim) (Lit.two _ _ _ _) ?_
  iterate 19 (first
      | (apply Chain.walk_quiet (by rfl) (by decide)
         (intro p wx hp hwn hx K hK
          obtain ⟨r0, r1, r2, r3, r4⟩ := HBX.out _ hx.below
          have hw := HT.out _ (below_of_new hx.below)
          have d1 := hw.dirs j hj
          have d2 := hw.doors k hk
          first
            | (go_simp
               first
                | (go_at_call 8; refine (F.out _ hw).mono ?_; rintro e x1 ⟨rfl, hb⟩; exact hK _ (hx.next hb))
                | (go_at_call 20; with_reducible first | refine (G1.out _).mono ?_ | refine (G2.out _).mono ?_); (rintro e x1 ⟨rfl, rfl⟩; exact hK _ hx)
                | (go_at_K; exact hK _ hx)))
         exact ⟨_, rfl⟩)
      | (refine Chain.walk_no (by rfl) (by decide) ?_; simp only [Act.put, List.setIfInBounds_toArray, List.set_cons_succ, List.set_cons_zero]))
  apply Chain.walk_turn 0 (by rfl) (by rfl)
  · intro wx hx K hK
    exact Lit.store 31 _ _ rfl rfl rfl hx (by omega) (by kernel_rfl) rfl (by kernel_rfl) (fun w2 h => hK w2 h)
  · exact ⟨undef, rfl⟩
  refine Chain.walk_nil (fun w1 hB => ?_)
  replace hB : Lit (w.heap.size + 1) (w.alloc (.cells #[.int .u32 fl, .bool u, .bool d, .bool o, .bool x] 28)) (w.heap.size + 1) (.cells #[.int .i64 fi, .int .i64 (j : Int), .int .i64 (k : Int)] 31 (0, 0)) w1 := hB
  simp only [Act.put]
  go_wp2
  exact bodyPost_ret (results_cell_row Tryd.results11 _ _ _ _ _ (0, 0) _ rfl (hB.row) Tryd.underlying31 rfl (by kernel_rfl)) rfl (⟨rfl, below_of_new hB.below⟩)

set_option linter.unusedSimpArgs false in
set_option maxHeartbeats 4000000 in
theorem refDecode_any (n : Int) (c : Ct) (w : World) (hc : c.ok) :
    Calls Tryd.prog 12 #[.int .i64 n, c.agg] w fun e w' => e = .returned (Ind.decode n c).agg ∧ Below w.heap.size w w' := by
  have hbx := fun (wx : World) (h : Below (w.heap.size + 1) (w.alloc (.cells #[.int .u32 c.fl, .bool c.up, .bool c.dn, .bool c.opn, .bool c.cls] 28)) wx) => boxCt h
  have HBX := Lib.hid hbx
  clear hbx
  have F := Lib.hid (fun w => refFloor_any n c.fl hc w)
  clear hc
  obtain ⟨fl, u, d, o, x⟩ := c
  simp only [Ct.agg, Ob.agg, Ind.decode]
  simp only at HBX F
  generalize Ind.floorI n fl = fi at *
  cases u <;> cases d <;> cases o <;> cases x
  all_goals
    simp only [Ind.two, if_true, Bool.false_eq_true, if_false, Int.add_zero, Int.zero_add]
    go_enter Tryd.func12, Tryd.ntmps12
    go_wp2_with fail
    refine (F.out _).mono ?_
    rintro e w1 ⟨rfl, hb⟩
    have hL := (Lit.two' w _ _).next hb
    obtain ⟨r0, r1, r2, r3, r4⟩ := HBX.out _ hL.below
    have z0 := hL.cell 0
    have z1 := hL.cell 1
    have z2 := hL.cell 2
    simp only [List.getElem?_toArray, List.getElem?_cons_zero, List.getElem?_cons_succ] at z0 z1 z2
    have q0 := hL.free 0
    have q1 := hL.free 1
    have q2 := hL.free 2
    have hlt := hL.lt
    have hlt0 : w.heap.size < w1.heap.size := by omega
    have hne : ¬ w.heap.size = w1.heap.size := by omega
    have hne2 : ¬ w.heap.size + 1 = w1.heap.size := by omega
    have HL := Lib.hid hL
    clear hL hb
    go_wp2
    have hE := fun v0 v1 v2 o => (HL.out.put3 (Nat.le_refl _) rfl v0 v1 v2).alloc o
    exact bodyPost_ret (results_cell_row Tryd.results12 _ _ _ _ _ (0, 0) _ rfl ((hE _ _ _ _).row) Tryd.underlying31 rfl (by kernel_rfl)) rfl (⟨rfl, below_of_new (hE _ _ _ _).below⟩)
end Go.Proofs.YtimaidiabjkgkaaDoor
