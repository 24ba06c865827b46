/- The methods of the tick of a modernised car, on. No statement of the seat is proved here. -/
import Derived.Test.YtnjcegkefjdgdaaDoorNcCtl
namespace Go.Proofs.YtnjcegkefjdgdaaDoor
open Go.RowKit
set_option maxRecDepth 4000
set_option linter.unusedSimpArgs false

set_option maxHeartbeats 4000000 in
theorem cycle_any' (b : BldD) (A : Option Addr) (cap : Nat) (k : Int) (x : Fb) (h : Cs) (s : Nc) (w : World) (hw : NcW b A w) (hg : NcG b k x h) (hs : s.ca < 4294967296) :
    Calls Tryd.prog 36 #[tickV b A cap k x h, s.agg] w fun ee w' => ee = .returned (.tuple #[(Nc.cycle (Nc.carAt b k) x s).1.agg, .int .i64 (Nc.cycle (Nc.carAt b k) x s).2]) ∧ Below w.heap.size w w' := by
  have FT := Lib.hid (fun wx (hb : Below w.heap.size w wx) => turnDoor_any b A cap k x h s false wx (hw.below hb) hg)
  have FH := Lib.hid (fun wx => here_any b A cap k x h wx ⟨hg.fb.1.1, by have := hg.fb.1.2; have := hg.floors; omega⟩)
  have hbl := Nc.bit_lt (x := x) (by have := hg.fb.1.2; have := hg.floors; omega)
  have huc : (Nc.turnDoor (Nc.carAt b k) x s false).1.ca = s.ca := rfl
  unfold Nc.cycle
  generalize Nc.turnDoor (Nc.carAt b k) x s false = t at *
  rw [← huc] at hs
  obtain ⟨⟨ua, ub, ⟨u1, u2, u3, u4, u5⟩, ⟨v1, v2, v3⟩, uc, us, ui, uf⟩, um⟩ := t
  simp only at hs
  have hnn := u32_andNot_nat uc (Nc.bit x) hs hbl
  clear hbl hs huc hw hg
  unfold Nc.turned Nc.minus
  simp only
  generalize Nc.bit x = y at *
  obtain ⟨f, d, r, pk, e1, e2, e3, cs⟩ := b
  obtain ⟨fl, lv, dd, bl⟩ := x
  obtain ⟨hu, hd⟩ := h
  obtain ⟨sd, so, ⟨d1, d2, d3, d4, d5⟩, ⟨m1, m2, m3⟩, ca, sh, il, fa⟩ := s
  by_cases h2 : u1 = 2
  · subst h2
    rw [if_pos rfl]
    simp only [tickV, Nc.agg, BldD.agg, Fb.agg, Dr.agg, Mo.agg, Cs.agg] at *
    have HB0 := Lib.hid (bxs3 w (.cells #[.int .i64 f, .int .i64 d, .int .i64 r, .int .i64 pk, .float .f64 e1, .float .f64 e2, .float .f64 e3, .slice A cs.length cap, .int .i64 k, .int .i64 fl, .bool lv, .int .i64 dd, .bool bl, .int .u32 hu, .int .u32 hd] 67) (.cells #[.int .i64 sd, .int .i64 so, .int .i64 d1, .int .i64 d2, .int .i64 d3, .bool d4, .int .i64 d5, .int .i64 m1, .int .i64 m2, .int .i64 m3, .int .u32 ca, .int .i64 sh, .int .i64 il, .bool fa] 38) (.cells #[.int .i64 0, .int .i64 0, .int .i64 0, .int .i64 0, .int .i64 0, .bool false, .int .i64 0, .int .i64 0, .int .i64 0, .int .i64 0, .int .u32 0, .int .i64 0, .int .i64 0, .bool false] 38))
    go_enter Tryd.func36, Tryd.ntmps36
    go_wp2_with fail
    refine (FT.out _ HB0.out.below).mono ?_
    rintro e w1 ⟨rfl, hb1⟩
    have HB1 := Lib.hid (HB0.out.next hb1)
    clear hb1 HB0
    obtain ⟨c0_0, c0_1, c0_2, c0_3, c0_4, c0_5, c0_6, c0_7, c0_8, c0_9, c0_10, c0_11, c0_12, c0_13, c0_14⟩ := row15 (b := w.heap.size) HB1.out.r0
    obtain ⟨c1_0, c1_1, c1_2, c1_3, c1_4, c1_5, c1_6, c1_7, c1_8, c1_9, c1_10, c1_11, c1_12, c1_13⟩ := row14 (b := w.heap.size + 1) HB1.out.r1
    go_wp2_with (with_reducible show wpList _ _ _ (Oper.mk _ (.store 38 _ _) _ _ _ _ :: _) _ _; refine Hid.out ?_)
    refine Lib.hid ?_
    refine wpList_put rfl 38 _ _ rfl (w.heap.size + 1) #[.int .i64 ua, .int .i64 ub, .int .i64 2, .int .i64 u2, .int .i64 u3, .bool u4, .int .i64 u5, .int .i64 v1, .int .i64 v2, .int .i64 v3, .int .u32 (uc : Nat), .int .i64 us, .int .i64 ui, .bool uf] _ 38 rfl rfl HB1.out.r1 (by kernel_rfl) rfl (by kernel_rfl) ?_
    intro w2 hr2 hg2
    have HB2 : Hid (Bx w [(w.heap.size, .cells #[.int .i64 f, .int .i64 d, .int .i64 r, .int .i64 pk, .float .f64 e1, .float .f64 e2, .float .f64 e3, .slice A cs.length cap, .int .i64 k, .int .i64 fl, .bool lv, .int .i64 dd, .bool bl, .int .u32 hu, .int .u32 hd] 67 (0, 0)), (w.heap.size + 1, .cells #[.int .i64 ua, .int .i64 ub, .int .i64 2, .int .i64 u2, .int .i64 u3, .bool u4, .int .i64 u5, .int .i64 v1, .int .i64 v2, .int .i64 v3, .int .u32 (uc : Nat), .int .i64 us, .int .i64 ui, .bool uf] 38 (0, 0)), (w.heap.size + 2, .cells #[.int .i64 0, .int .i64 0, .int .i64 0, .int .i64 0, .int .i64 0, .bool false, .int .i64 0, .int .i64 0, .int .i64 0, .int .i64 0, .int .u32 0, .int .i64 0, .int .i64 0, .bool false] 38 (0, 0))] w2) := Lib.hid (HB1.out.put (by omega) hg2.out hr2.out (by simp only [List.mem_cons, List.not_mem_nil, or_false]; rintro p (rfl | rfl | rfl) <;> simp <;> omega))
    clear c0_0 c0_1 c0_2 c0_3 c0_4 c0_5 c0_6 c0_7 c0_8 c0_9 c0_10 c0_11 c0_12 c0_13 c0_14 c1_0 c1_1 c1_2 c1_3 c1_4 c1_5 c1_6 c1_7 c1_8 c1_9 c1_10 c1_11 c1_12 c1_13 hr2 hg2 HB1
    obtain ⟨c0_0, c0_1, c0_2, c0_3, c0_4, c0_5, c0_6, c0_7, c0_8, c0_9, c0_10, c0_11, c0_12, c0_13, c0_14⟩ := row15 (b := w.heap.size) HB2.out.r0
    obtain ⟨c1_0, c1_1, c1_2, c1_3, c1_4, c1_5, c1_6, c1_7, c1_8, c1_9, c1_10, c1_11, c1_12, c1_13⟩ := row14 (b := w.heap.size + 1) HB2.out.r1
    go_wp2_with fail
    have q0 : w.heap.size < w2.heap.size := (Array.getElem?_eq_some_iff.1 HB2.out.r0).1
    have q1 : w.heap.size + 1 < w2.heap.size := (Array.getElem?_eq_some_iff.1 HB2.out.r1).1
    have q2 : w.heap.size + 2 < w2.heap.size := (Array.getElem?_eq_some_iff.1 HB2.out.r2).1
    refine Chain.chain (fun p wx => Put (w2) (w.heap.size + 1) (.cells (if p = 0 then #[.int .i64 ua, .int .i64 ub, .int .i64 2, .int .i64 u2, .int .i64 u3, .bool u4, .int .i64 u5, .int .i64 v1, .int .i64 v2, .int .i64 v3, .int .u32 (uc : Nat), .int .i64 us, .int .i64 ui, .bool uf] else #[.int .i64 ua, .int .i64 ub, .int .i64 2, .int .i64 u2, .int .i64 u3, .bool u4, .int .i64 u5, .int .i64 v1, .int .i64 v2, .int .i64 v3, .int .u32 (uc &&& 4294967295 - y : Nat), .int .i64 us, .int .i64 ui, .bool uf]) 38 (0, 0)) wx) (fun _ _ => False) [6] (by kernel_rfl) (by kernel_rfl) (fun _ _ _ _ h => h.elim) ((Put.start HB2.out.r1).drew) ?_
    (first
        | (apply Chain.walk_quiet (by rfl) (by decide)
           (intro p wx hp hwn hx K hK
            obtain ⟨z0_0, z0_1, z0_2, z0_3, z0_4, z0_5, z0_6, z0_7, z0_8, z0_9, z0_10, z0_11, z0_12, z0_13, z0_14⟩ := row15 (b := w.heap.size) ((hx.other (w.heap.size) q0 (by omega)).trans HB2.out.r0)
            first
              | (go_simp
                 first
                  | (go_at_call 35; (with_reducible refine (FH.out _).mono ?_); rintro e x1 ⟨rfl, hb⟩; exact hK _ (hx.next hb))
                  | (go_at_K; exact hK _ hx)))
           exact ⟨_, rfl⟩)
        | (refine Chain.walk_no (by rfl) (by decide) ?_; simp only [Act.put, List.setIfInBounds_toArray, List.set_cons_succ, List.set_cons_zero]))
    (first
        | (apply Chain.walk_quiet (by rfl) (by decide)
           (intro p wx hp hwn hx K hK
            obtain rfl : p = 0 := (by rcases Nat.lt_or_ge p 1 with h | h; exact Nat.lt_one_iff.1 h; obtain rfl : p = 1 := Nat.le_antisymm hp h; exact absurd ((Eq.symm (show _ = false by kernel_rfl)).trans hwn) Bool.false_ne_true)
            have hx0 : Put w2 (w.heap.size + 1) (.cells #[.int .i64 ua, .int .i64 ub, .int .i64 2, .int .i64 u2, .int .i64 u3, .bool u4, .int .i64 u5, .int .i64 v1, .int .i64 v2, .int .i64 v3, .int .u32 (uc : Nat), .int .i64 us, .int .i64 ui, .bool uf] 38 (0, 0)) wx := hx
            have z1_10 : wx.cell? ⟨w.heap.size + 1, 10, none⟩ = some (.int .u32 (uc : Nat)) := cell_of_row _ _ _ _ _ (0, 0) hx0.row
            obtain ⟨z0_0, z0_1, z0_2, z0_3, z0_4, z0_5, z0_6, z0_7, z0_8, z0_9, z0_10, z0_11, z0_12, z0_13, z0_14⟩ := row15 (b := w.heap.size) ((hx.other (w.heap.size) q0 (by omega)).trans HB2.out.r0)
            first
              | (go_simp
                 first
                  | (go_at_call 35; (with_reducible refine (FH.out _).mono ?_); rintro e x1 ⟨rfl, hb⟩; exact hK _ (hx.next hb))
                  | (go_at_K; exact hK _ hx)))
           exact ⟨_, rfl⟩)
        | (refine Chain.walk_no (by rfl) (by decide) ?_; simp only [Act.put, List.setIfInBounds_toArray, List.set_cons_succ, List.set_cons_zero]))
    iterate 4
      (first
          | (apply Chain.walk_quiet (by rfl) (by decide)
             (intro p wx hp hwn hx K hK
              obtain ⟨z0_0, z0_1, z0_2, z0_3, z0_4, z0_5, z0_6, z0_7, z0_8, z0_9, z0_10, z0_11, z0_12, z0_13, z0_14⟩ := row15 (b := w.heap.size) ((hx.other (w.heap.size) q0 (by omega)).trans HB2.out.r0)
              first
                | (go_simp
                   first
                    | (go_at_call 35; (with_reducible refine (FH.out _).mono ?_); rintro e x1 ⟨rfl, hb⟩; exact hK _ (hx.next hb))
                    | (go_at_K; exact hK _ hx)))
             exact ⟨_, rfl⟩)
          | (refine Chain.walk_no (by rfl) (by decide) ?_; simp only [Act.put, List.setIfInBounds_toArray, List.set_cons_succ, List.set_cons_zero]))
    apply Chain.walk_turn 0 (by rfl) (by rfl)
    · intro wx hx K hK
      have hx1 : Put (w2) (w.heap.size + 1) (.cells #[.int .i64 ua, .int .i64 ub, .int .i64 2, .int .i64 u2, .int .i64 u3, .bool u4, .int .i64 u5, .int .i64 v1, .int .i64 v2, .int .i64 v3, .int .u32 (uc : Nat), .int .i64 us, .int .i64 ui, .bool uf] 38 (0, 0)) wx := hx
      have z1 := hx1.cell 10
      have z2 := hx1.free 10
      simp only [List.getElem?_toArray, List.getElem?_cons_zero, List.getElem?_cons_succ] at z1
      go_simp
      go_at_K
      exact hK _ (hx1.put1 10 _)
    · exact ⟨undef, rfl⟩
    refine Chain.walk_nil (fun w3 hp3 => ?_)
    replace hp3 : Put (w2) (w.heap.size + 1) (.cells #[.int .i64 ua, .int .i64 ub, .int .i64 2, .int .i64 u2, .int .i64 u3, .bool u4, .int .i64 u5, .int .i64 v1, .int .i64 v2, .int .i64 v3, .int .u32 (uc &&& 4294967295 - y : Nat), .int .i64 us, .int .i64 ui, .bool uf] 38 (0, 0)) w3 := hp3
    try simp only [Act.put]
    have HB3 : Hid (Bx w [(w.heap.size, .cells #[.int .i64 f, .int .i64 d, .int .i64 r, .int .i64 pk, .float .f64 e1, .float .f64 e2, .float .f64 e3, .slice A cs.length cap, .int .i64 k, .int .i64 fl, .bool lv, .int .i64 dd, .bool bl, .int .u32 hu, .int .u32 hd] 67 (0, 0)), (w.heap.size + 1, .cells #[.int .i64 ua, .int .i64 ub, .int .i64 2, .int .i64 u2, .int .i64 u3, .bool u4, .int .i64 u5, .int .i64 v1, .int .i64 v2, .int .i64 v3, .int .u32 (uc &&& 4294967295 - y : Nat), .int .i64 us, .int .i64 ui, .bool uf] 38 (0, 0)), (w.heap.size + 2, .cells #[.int .i64 0, .int .i64 0, .int .i64 0, .int .i64 0, .int .i64 0, .bool false, .int .i64 0, .int .i64 0, .int .i64 0, .int .i64 0, .int .u32 0, .int .i64 0, .int .i64 0, .bool false] 38 (0, 0))] w3) := Lib.hid (HB2.out.ofPut (by omega) hp3 (by simp only [List.mem_cons, List.not_mem_nil, or_false]; rintro p (rfl | rfl | rfl) <;> simp <;> omega))
    clear c0_0 c0_1 c0_2 c0_3 c0_4 c0_5 c0_6 c0_7 c0_8 c0_9 c0_10 c0_11 c0_12 c0_13 c0_14 c1_0 c1_1 c1_2 c1_3 c1_4 c1_5 c1_6 c1_7 c1_8 c1_9 c1_10 c1_11 c1_12 c1_13 hp3 HB2 q0 q1 q2
    obtain ⟨c1_0, c1_1, c1_2, c1_3, c1_4, c1_5, c1_6, c1_7, c1_8, c1_9, c1_10, c1_11, c1_12, c1_13⟩ := row14 (b := w.heap.size + 1) HB3.out.r1
    go_wp2_with (with_reducible show wpList _ _ _ (Oper.mk _ (.store 38 _ _) _ _ _ _ :: _) _ _; refine Hid.out ?_)
    refine Lib.hid ?_
    refine wpList_put rfl 38 _ _ rfl (w.heap.size + 2) #[.int .i64 ua, .int .i64 ub, .int .i64 2, .int .i64 u2, .int .i64 u3, .bool u4, .int .i64 u5, .int .i64 v1, .int .i64 v2, .int .i64 v3, .int .u32 (uc &&& 4294967295 - y : Nat), .int .i64 us, .int .i64 ui, .bool uf] _ 38 rfl rfl HB3.out.r2 (by kernel_rfl) rfl (by kernel_rfl) ?_
    intro w4 hr4 hg4
    have HB4 : Hid (Bx w [(w.heap.size, .cells #[.int .i64 f, .int .i64 d, .int .i64 r, .int .i64 pk, .float .f64 e1, .float .f64 e2, .float .f64 e3, .slice A cs.length cap, .int .i64 k, .int .i64 fl, .bool lv, .int .i64 dd, .bool bl, .int .u32 hu, .int .u32 hd] 67 (0, 0)), (w.heap.size + 1, .cells #[.int .i64 ua, .int .i64 ub, .int .i64 2, .int .i64 u2, .int .i64 u3, .bool u4, .int .i64 u5, .int .i64 v1, .int .i64 v2, .int .i64 v3, .int .u32 (uc &&& 4294967295 - y : Nat), .int .i64 us, .int .i64 ui, .bool uf] 38 (0, 0)), (w.heap.size + 2, .cells #[.int .i64 ua, .int .i64 ub, .int .i64 2, .int .i64 u2, .int .i64 u3, .bool u4, .int .i64 u5, .int .i64 v1, .int .i64 v2, .int .i64 v3, .int .u32 (uc &&& 4294967295 - y : Nat), .int .i64 us, .int .i64 ui, .bool uf] 38 (0, 0))] w4) := Lib.hid (HB3.out.put (by omega) hg4.out hr4.out (by simp only [List.mem_cons, List.not_mem_nil, or_false]; rintro p (rfl | rfl | rfl) <;> simp <;> omega))
    clear c1_0 c1_1 c1_2 c1_3 c1_4 c1_5 c1_6 c1_7 c1_8 c1_9 c1_10 c1_11 c1_12 c1_13 hr4 hg4 HB3
    go_wp2_with fail
    exact bodyPost_ret (results_row_tmp Tryd.results36 _ _ _ _ _ (0, 0) _ rfl HB4.out.r2 Tryd.underlying38 rfl (by kernel_rfl)) rfl (⟨rfl, HB4.out.below⟩)
  · rw [if_neg h2]
    have hB2 : (u1 == 2) = false := by simpa using h2
    by_cases h0 : u1 = 0
    · subst h0
      rw [if_pos rfl]
      simp only [tickV, Nc.agg, BldD.agg, Fb.agg, Dr.agg, Mo.agg, Cs.agg] at *
      have HB0 := Lib.hid (bxs3 w (.cells #[.int .i64 f, .int .i64 d, .int .i64 r, .int .i64 pk, .float .f64 e1, .float .f64 e2, .float .f64 e3, .slice A cs.length cap, .int .i64 k, .int .i64 fl, .bool lv, .int .i64 dd, .bool bl, .int .u32 hu, .int .u32 hd] 67) (.cells #[.int .i64 sd, .int .i64 so, .int .i64 d1, .int .i64 d2, .int .i64 d3, .bool d4, .int .i64 d5, .int .i64 m1, .int .i64 m2, .int .i64 m3, .int .u32 ca, .int .i64 sh, .int .i64 il, .bool fa] 38) (.cells #[.int .i64 0, .int .i64 0, .int .i64 0, .int .i64 0, .int .i64 0, .bool false, .int .i64 0, .int .i64 0, .int .i64 0, .int .i64 0, .int .u32 0, .int .i64 0, .int .i64 0, .bool false] 38))
      go_enter Tryd.func36, Tryd.ntmps36
      go_wp2_with fail
      refine (FT.out _ HB0.out.below).mono ?_
      rintro e w1 ⟨rfl, hb1⟩
      have HB1 := Lib.hid (HB0.out.next hb1)
      clear hb1 HB0
      obtain ⟨c0_0, c0_1, c0_2, c0_3, c0_4, c0_5, c0_6, c0_7, c0_8, c0_9, c0_10, c0_11, c0_12, c0_13, c0_14⟩ := row15 (b := w.heap.size) HB1.out.r0
      obtain ⟨c1_0, c1_1, c1_2, c1_3, c1_4, c1_5, c1_6, c1_7, c1_8, c1_9, c1_10, c1_11, c1_12, c1_13⟩ := row14 (b := w.heap.size + 1) HB1.out.r1
      go_wp2_with (with_reducible show wpList _ _ _ (Oper.mk _ (.store 38 _ _) _ _ _ _ :: _) _ _; refine Hid.out ?_)
      refine Lib.hid ?_
      refine wpList_put rfl 38 _ _ rfl (w.heap.size + 1) #[.int .i64 ua, .int .i64 ub, .int .i64 0, .int .i64 u2, .int .i64 u3, .bool u4, .int .i64 u5, .int .i64 v1, .int .i64 v2, .int .i64 v3, .int .u32 (uc : Nat), .int .i64 us, .int .i64 ui, .bool uf] _ 38 rfl rfl HB1.out.r1 (by kernel_rfl) rfl (by kernel_rfl) ?_
      intro w2 hr2 hg2
      have HB2 : Hid (Bx w [(w.heap.size, .cells #[.int .i64 f, .int .i64 d, .int .i64 r, .int .i64 pk, .float .f64 e1, .float .f64 e2, .float .f64 e3, .slice A cs.length cap, .int .i64 k, .int .i64 fl, .bool lv, .int .i64 dd, .bool bl, .int .u32 hu, .int .u32 hd] 67 (0, 0)), (w.heap.size + 1, .cells #[.int .i64 ua, .int .i64 ub, .int .i64 0, .int .i64 u2, .int .i64 u3, .bool u4, .int .i64 u5, .int .i64 v1, .int .i64 v2, .int .i64 v3, .int .u32 (uc : Nat), .int .i64 us, .int .i64 ui, .bool uf] 38 (0, 0)), (w.heap.size + 2, .cells #[.int .i64 0, .int .i64 0, .int .i64 0, .int .i64 0, .int .i64 0, .bool false, .int .i64 0, .int .i64 0, .int .i64 0, .int .i64 0, .int .u32 0, .int .i64 0, .int .i64 0, .bool false] 38 (0, 0))] w2) := Lib.hid (HB1.out.put (by omega) hg2.out hr2.out (by simp only [List.mem_cons, List.not_mem_nil, or_false]; rintro p (rfl | rfl | rfl) <;> simp <;> omega))
      clear c0_0 c0_1 c0_2 c0_3 c0_4 c0_5 c0_6 c0_7 c0_8 c0_9 c0_10 c0_11 c0_12 c0_13 c0_14 c1_0 c1_1 c1_2 c1_3 c1_4 c1_5 c1_6 c1_7 c1_8 c1_9 c1_10 c1_11 c1_12 c1_13 hr2 hg2 HB1
      obtain ⟨c0_0, c0_1, c0_2, c0_3, c0_4, c0_5, c0_6, c0_7, c0_8, c0_9, c0_10, c0_11, c0_12, c0_13, c0_14⟩ := row15 (b := w.heap.size) HB2.out.r0
      obtain ⟨c1_0, c1_1, c1_2, c1_3, c1_4, c1_5, c1_6, c1_7, c1_8, c1_9, c1_10, c1_11, c1_12, c1_13⟩ := row14 (b := w.heap.size + 1) HB2.out.r1
      go_wp2_with (with_reducible show wpList _ _ _ (Oper.mk _ (.store 3 _ _) _ _ _ _ :: _) _ _; refine Hid.out ?_)
      refine Lib.hid ?_
      refine wpList_putCell rfl 3 _ _ rfl (w.heap.size + 1) 11 (.int .i64 0) _ _ 38 rfl rfl HB2.out.r1 (by kernel_rfl) (by simp) rfl rfl rfl ?_
      intro w3 hr3 hg3
      have HB3 : Hid (Bx w [(w.heap.size, .cells #[.int .i64 f, .int .i64 d, .int .i64 r, .int .i64 pk, .float .f64 e1, .float .f64 e2, .float .f64 e3, .slice A cs.length cap, .int .i64 k, .int .i64 fl, .bool lv, .int .i64 dd, .bool bl, .int .u32 hu, .int .u32 hd] 67 (0, 0)), (w.heap.size + 1, .cells #[.int .i64 ua, .int .i64 ub, .int .i64 0, .int .i64 u2, .int .i64 u3, .bool u4, .int .i64 u5, .int .i64 v1, .int .i64 v2, .int .i64 v3, .int .u32 (uc : Nat), .int .i64 0, .int .i64 ui, .bool uf] 38 (0, 0)), (w.heap.size + 2, .cells #[.int .i64 0, .int .i64 0, .int .i64 0, .int .i64 0, .int .i64 0, .bool false, .int .i64 0, .int .i64 0, .int .i64 0, .int .i64 0, .int .u32 0, .int .i64 0, .int .i64 0, .bool false] 38 (0, 0))] w3) := Lib.hid (HB2.out.put (by omega) hg3.out hr3.out (by simp only [List.mem_cons, List.not_mem_nil, or_false]; rintro p (rfl | rfl | rfl) <;> simp <;> omega))
      clear c0_0 c0_1 c0_2 c0_3 c0_4 c0_5 c0_6 c0_7 c0_8 c0_9 c0_10 c0_11 c0_12 c0_13 c0_14 c1_0 c1_1 c1_2 c1_3 c1_4 c1_5 c1_6 c1_7 c1_8 c1_9 c1_10 c1_11 c1_12 c1_13 hr3 hg3 HB2
      obtain ⟨c0_0, c0_1, c0_2, c0_3, c0_4, c0_5, c0_6, c0_7, c0_8, c0_9, c0_10, c0_11, c0_12, c0_13, c0_14⟩ := row15 (b := w.heap.size) HB3.out.r0
      obtain ⟨c1_0, c1_1, c1_2, c1_3, c1_4, c1_5, c1_6, c1_7, c1_8, c1_9, c1_10, c1_11, c1_12, c1_13⟩ := row14 (b := w.heap.size + 1) HB3.out.r1
      go_wp2_with (with_reducible show wpList _ _ _ (Oper.mk _ (.store 38 _ _) _ _ _ _ :: _) _ _; refine Hid.out ?_)
      refine Lib.hid ?_
      refine wpList_put rfl 38 _ _ rfl (w.heap.size + 2) #[.int .i64 ua, .int .i64 ub, .int .i64 0, .int .i64 u2, .int .i64 u3, .bool u4, .int .i64 u5, .int .i64 v1, .int .i64 v2, .int .i64 v3, .int .u32 (uc : Nat), .int .i64 0, .int .i64 ui, .bool uf] _ 38 rfl rfl HB3.out.r2 (by kernel_rfl) rfl (by kernel_rfl) ?_
      intro w4 hr4 hg4
      have HB4 : Hid (Bx w [(w.heap.size, .cells #[.int .i64 f, .int .i64 d, .int .i64 r, .int .i64 pk, .float .f64 e1, .float .f64 e2, .float .f64 e3, .slice A cs.length cap, .int .i64 k, .int .i64 fl, .bool lv, .int .i64 dd, .bool bl, .int .u32 hu, .int .u32 hd] 67 (0, 0)), (w.heap.size + 1, .cells #[.int .i64 ua, .int .i64 ub, .int .i64 0, .int .i64 u2, .int .i64 u3, .bool u4, .int .i64 u5, .int .i64 v1, .int .i64 v2, .int .i64 v3, .int .u32 (uc : Nat), .int .i64 0, .int .i64 ui, .bool uf] 38 (0, 0)), (w.heap.size + 2, .cells #[.int .i64 ua, .int .i64 ub, .int .i64 0, .int .i64 u2, .int .i64 u3, .bool u4, .int .i64 u5, .int .i64 v1, .int .i64 v2, .int .i64 v3, .int .u32 (uc : Nat), .int .i64 0, .int .i64 ui, .bool uf] 38 (0, 0))] w4) := Lib.hid (HB3.out.put (by omega) hg4.out hr4.out (by simp only [List.mem_cons, List.not_mem_nil, or_false]; rintro p (rfl | rfl | rfl) <;> simp <;> omega))
      clear c0_0 c0_1 c0_2 c0_3 c0_4 c0_5 c0_6 c0_7 c0_8 c0_9 c0_10 c0_11 c0_12 c0_13 c0_14 c1_0 c1_1 c1_2 c1_3 c1_4 c1_5 c1_6 c1_7 c1_8 c1_9 c1_10 c1_11 c1_12 c1_13 hr4 hg4 HB3
      go_wp2_with fail
      exact bodyPost_ret (results_row_tmp Tryd.results36 _ _ _ _ _ (0, 0) _ rfl HB4.out.r2 Tryd.underlying38 rfl (by kernel_rfl)) rfl (⟨rfl, HB4.out.below⟩)
    · rw [if_neg h0]
      have hB0 : (u1 == 0) = false := by simpa using h0
      simp only [tickV, Nc.agg, BldD.agg, Fb.agg, Dr.agg, Mo.agg, Cs.agg] at *
      have HB0 := Lib.hid (bxs3 w (.cells #[.int .i64 f, .int .i64 d, .int .i64 r, .int .i64 pk, .float .f64 e1, .float .f64 e2, .float .f64 e3, .slice A cs.length cap, .int .i64 k, .int .i64 fl, .bool lv, .int .i64 dd, .bool bl, .int .u32 hu, .int .u32 hd] 67) (.cells #[.int .i64 sd, .int .i64 so, .int .i64 d1, .int .i64 d2, .int .i64 d3, .bool d4, .int .i64 d5, .int .i64 m1, .int .i64 m2, .int .i64 m3, .int .u32 ca, .int .i64 sh, .int .i64 il, .bool fa] 38) (.cells #[.int .i64 0, .int .i64 0, .int .i64 0, .int .i64 0, .int .i64 0, .bool false, .int .i64 0, .int .i64 0, .int .i64 0, .int .i64 0, .int .u32 0, .int .i64 0, .int .i64 0, .bool false] 38))
      go_enter Tryd.func36, Tryd.ntmps36
      go_wp2_with fail
      refine (FT.out _ HB0.out.below).mono ?_
      rintro e w1 ⟨rfl, hb1⟩
      have HB1 := Lib.hid (HB0.out.next hb1)
      clear hb1 HB0
      obtain ⟨c0_0, c0_1, c0_2, c0_3, c0_4, c0_5, c0_6, c0_7, c0_8, c0_9, c0_10, c0_11, c0_12, c0_13, c0_14⟩ := row15 (b := w.heap.size) HB1.out.r0
      obtain ⟨c1_0, c1_1, c1_2, c1_3, c1_4, c1_5, c1_6, c1_7, c1_8, c1_9, c1_10, c1_11, c1_12, c1_13⟩ := row14 (b := w.heap.size + 1) HB1.out.r1
      go_wp2_with (with_reducible show wpList _ _ _ (Oper.mk _ (.store 38 _ _) _ _ _ _ :: _) _ _; refine Hid.out ?_)
      refine Lib.hid ?_
      refine wpList_put rfl 38 _ _ rfl (w.heap.size + 1) #[.int .i64 ua, .int .i64 ub, .int .i64 u1, .int .i64 u2, .int .i64 u3, .bool u4, .int .i64 u5, .int .i64 v1, .int .i64 v2, .int .i64 v3, .int .u32 (uc : Nat), .int .i64 us, .int .i64 ui, .bool uf] _ 38 rfl rfl HB1.out.r1 (by kernel_rfl) rfl (by kernel_rfl) ?_
      intro w2 hr2 hg2
      have HB2 : Hid (Bx w [(w.heap.size, .cells #[.int .i64 f, .int .i64 d, .int .i64 r, .int .i64 pk, .float .f64 e1, .float .f64 e2, .float .f64 e3, .slice A cs.length cap, .int .i64 k, .int .i64 fl, .bool lv, .int .i64 dd, .bool bl, .int .u32 hu, .int .u32 hd] 67 (0, 0)), (w.heap.size + 1, .cells #[.int .i64 ua, .int .i64 ub, .int .i64 u1, .int .i64 u2, .int .i64 u3, .bool u4, .int .i64 u5, .int .i64 v1, .int .i64 v2, .int .i64 v3, .int .u32 (uc : Nat), .int .i64 us, .int .i64 ui, .bool uf] 38 (0, 0)), (w.heap.size + 2, .cells #[.int .i64 0, .int .i64 0, .int .i64 0, .int .i64 0, .int .i64 0, .bool false, .int .i64 0, .int .i64 0, .int .i64 0, .int .i64 0, .int .u32 0, .int .i64 0, .int .i64 0, .bool false] 38 (0, 0))] w2) := Lib.hid (HB1.out.put (by omega) hg2.out hr2.out (by simp only [List.mem_cons, List.not_mem_nil, or_false]; rintro p (rfl | rfl | rfl) <;> simp <;> omega))
      clear c0_0 c0_1 c0_2 c0_3 c0_4 c0_5 c0_6 c0_7 c0_8 c0_9 c0_10 c0_11 c0_12 c0_13 c0_14 c1_0 c1_1 c1_2 c1_3 c1_4 c1_5 c1_6 c1_7 c1_8 c1_9 c1_10 c1_11 c1_12 c1_13 hr2 hg2 HB1
      obtain ⟨c0_0, c0_1, c0_2, c0_3, c0_4, c0_5, c0_6, c0_7, c0_8, c0_9, c0_10, c0_11, c0_12, c0_13, c0_14⟩ := row15 (b := w.heap.size) HB2.out.r0
      obtain ⟨c1_0, c1_1, c1_2, c1_3, c1_4, c1_5, c1_6, c1_7, c1_8, c1_9, c1_10, c1_11, c1_12, c1_13⟩ := row14 (b := w.heap.size + 1) HB2.out.r1
      go_wp2_with (with_reducible show wpList _ _ _ (Oper.mk _ (.store 38 _ _) _ _ _ _ :: _) _ _; refine Hid.out ?_)
      refine Lib.hid ?_
      refine wpList_put rfl 38 _ _ rfl (w.heap.size + 2) #[.int .i64 ua, .int .i64 ub, .int .i64 u1, .int .i64 u2, .int .i64 u3, .bool u4, .int .i64 u5, .int .i64 v1, .int .i64 v2, .int .i64 v3, .int .u32 (uc : Nat), .int .i64 us, .int .i64 ui, .bool uf] _ 38 rfl rfl HB2.out.r2 (by kernel_rfl) rfl (by kernel_rfl) ?_
      intro w3 hr3 hg3
      have HB3 : Hid (Bx w [(w.heap.size, .cells #[.int .i64 f, .int .i64 d, .int .i64 r, .int .i64 pk, .float .f64 e1, .float .f64 e2, .float .f64 e3, .slice A cs.length cap, .int .i64 k, .int .i64 fl, .bool lv, .int .i64 dd, .bool bl, .int .u32 hu, .int .u32 hd] 67 (0, 0)), (w.heap.size + 1, .cells #[.int .i64 ua, .int .i64 ub, .int .i64 u1, .int .i64 u2, .int .i64 u3, .bool u4, .int .i64 u5, .int .i64 v1, .int .i64 v2, .int .i64 v3, .int .u32 (uc : Nat), .int .i64 us, .int .i64 ui, .bool uf] 38 (0, 0)), (w.heap.size + 2, .cells #[.int .i64 ua, .int .i64 ub, .int .i64 u1, .int .i64 u2, .int .i64 u3, .bool u4, .int .i64 u5, .int .i64 v1, .int .i64 v2, .int .i64 v3, .int .u32 (uc : Nat), .int .i64 us, .int .i64 ui, .bool uf] 38 (0, 0))] w3) := Lib.hid (HB2.out.put (by omega) hg3.out hr3.out (by simp only [List.mem_cons, List.not_mem_nil, or_false]; rintro p (rfl | rfl | rfl) <;> simp <;> omega))
      clear c0_0 c0_1 c0_2 c0_3 c0_4 c0_5 c0_6 c0_7 c0_8 c0_9 c0_10 c0_11 c0_12 c0_13 c0_14 c1_0 c1_1 c1_2 c1_3 c1_4 c1_5 c1_6 c1_7 c1_8 c1_9 c1_10 c1_11 c1_12 c1_13 hr3 hg3 HB2
      go_wp2_with fail
      exact bodyPost_ret (results_row_tmp Tryd.results36 _ _ _ _ _ (0, 0) _ rfl HB3.out.r2 Tryd.underlying38 rfl (by kernel_rfl)) rfl (⟨rfl, HB3.out.below⟩)
set_option maxHeartbeats 4000000 in
theorem ncRest_any (b : BldD) (A : Option Addr) (cap : Nat) (k : Int) (x : Fb) (h : Cs) (s : Nc) (w : World) (hw : NcW b A w) (hg : NcG b k x h) (hs : 0 ≤ s.il ∧ s.il ≤ 1000000) :
    Calls Tryd.prog 59 #[tickV b A cap k x h, s.agg] w fun ee w' => ee = .returned (.tuple #[(Nc.rest b k x s).1.agg, .int .i64 (Nc.rest b k x s).2]) ∧ Below w.heap.size w w' := by
  have FP := Lib.hid (fun wx (hb : Below w.heap.size w wx) => move_any b A cap k s.il x.fl wx hg.few (hw.below hb).cars)
  have FM := Lib.hid (fun m wx (hb : Below w.heap.size w wx) => ncMove_any b A cap k x h s m wx (hw.below hb))
  unfold Nc.rest
  generalize moveF b k s.il x.fl = m at *
  clear hw hg
  by_cases h0 : m = 0
  · subst h0
    rw [if_pos rfl]
    clear FM
    obtain ⟨f, d, r, pk, e1, e2, e3, cs⟩ := b
    obtain ⟨fl, lv, dd, bl⟩ := x
    obtain ⟨hu, hd⟩ := h
    obtain ⟨sd, so, ⟨d1, d2, d3, d4, d5⟩, ⟨m1, m2, m3⟩, ca, sh, il, fa⟩ := s
    simp only at hs
    by_cases h9 : il + 1 ≤ 1000000
    · rw [show Nc.more il = il + 1 from if_pos h9]
      simp only [tickV, Nc.agg, BldD.agg, Fb.agg, Dr.agg, Mo.agg, Cs.agg] at *
      have HB0 := Lib.hid (bxs3 w (.cells #[.int .i64 f, .int .i64 d, .int .i64 r, .int .i64 pk, .float .f64 e1, .float .f64 e2, .float .f64 e3, .slice A cs.length cap, .int .i64 k, .int .i64 fl, .bool lv, .int .i64 dd, .bool bl, .int .u32 hu, .int .u32 hd] 67) (.cells #[.int .i64 sd, .int .i64 so, .int .i64 d1, .int .i64 d2, .int .i64 d3, .bool d4, .int .i64 d5, .int .i64 m1, .int .i64 m2, .int .i64 m3, .int .u32 ca, .int .i64 sh, .int .i64 il, .bool fa] 38) (.cells #[.int .i64 0, .int .i64 0, .int .i64 0, .int .i64 0, .int .i64 0, .bool false, .int .i64 0, .int .i64 0, .int .i64 0, .int .i64 0, .int .u32 0, .int .i64 0, .int .i64 0, .bool false] 38))
      go_enter Tryd.func59, Tryd.ntmps59
      go_wp2_with fail
      refine (FP.out _ HB0.out.below).mono ?_
      rintro e w1 ⟨rfl, hb1⟩
      have HB1 := Lib.hid (HB0.out.next hb1)
      clear hb1 HB0
      obtain ⟨c0_0, c0_1, c0_2, c0_3, c0_4, c0_5, c0_6, c0_7, c0_8, c0_9, c0_10, c0_11, c0_12, c0_13, c0_14⟩ := row15 (b := w.heap.size) HB1.out.r0
      obtain ⟨c1_0, c1_1, c1_2, c1_3, c1_4, c1_5, c1_6, c1_7, c1_8, c1_9, c1_10, c1_11, c1_12, c1_13⟩ := row14 (b := w.heap.size + 1) HB1.out.r1
      go_wp2_with (with_reducible show wpList _ _ _ (Oper.mk _ (.store 3 _ _) _ _ _ _ :: _) _ _; refine Hid.out ?_)
      refine Lib.hid ?_
      refine wpList_putCell rfl 3 _ _ rfl (w.heap.size + 1) 12 (.int .i64 (il + 1)) _ _ 38 rfl rfl HB1.out.r1 (by kernel_rfl) (by simp) rfl rfl rfl ?_
      intro w2 hr2 hg2
      have HB2 : Hid (Bx w [(w.heap.size, .cells #[.int .i64 f, .int .i64 d, .int .i64 r, .int .i64 pk, .float .f64 e1, .float .f64 e2, .float .f64 e3, .slice A cs.length cap, .int .i64 k, .int .i64 fl, .bool lv, .int .i64 dd, .bool bl, .int .u32 hu, .int .u32 hd] 67 (0, 0)), (w.heap.size + 1, .cells #[.int .i64 sd, .int .i64 so, .int .i64 d1, .int .i64 d2, .int .i64 d3, .bool d4, .int .i64 d5, .int .i64 m1, .int .i64 m2, .int .i64 m3, .int .u32 ca, .int .i64 sh, .int .i64 (il + 1), .bool fa] 38 (0, 0)), (w.heap.size + 2, .cells #[.int .i64 0, .int .i64 0, .int .i64 0, .int .i64 0, .int .i64 0, .bool false, .int .i64 0, .int .i64 0, .int .i64 0, .int .i64 0, .int .u32 0, .int .i64 0, .int .i64 0, .bool false] 38 (0, 0))] w2) := Lib.hid (HB1.out.put (by omega) hg2.out hr2.out (by simp only [List.mem_cons, List.not_mem_nil, or_false]; rintro p (rfl | rfl | rfl) <;> simp <;> omega))
      clear c0_0 c0_1 c0_2 c0_3 c0_4 c0_5 c0_6 c0_7 c0_8 c0_9 c0_10 c0_11 c0_12 c0_13 c0_14 c1_0 c1_1 c1_2 c1_3 c1_4 c1_5 c1_6 c1_7 c1_8 c1_9 c1_10 c1_11 c1_12 c1_13 hr2 hg2 HB1
      obtain ⟨c0_0, c0_1, c0_2, c0_3, c0_4, c0_5, c0_6, c0_7, c0_8, c0_9, c0_10, c0_11, c0_12, c0_13, c0_14⟩ := row15 (b := w.heap.size) HB2.out.r0
      obtain ⟨c1_0, c1_1, c1_2, c1_3, c1_4, c1_5, c1_6, c1_7, c1_8, c1_9, c1_10, c1_11, c1_12, c1_13⟩ := row14 (b := w.heap.size + 1) HB2.out.r1
      go_wp2_with (with_reducible show wpList _ _ _ (Oper.mk _ (.store 38 _ _) _ _ _ _ :: _) _ _; refine Hid.out ?_)
      refine Lib.hid ?_
      refine wpList_put rfl 38 _ _ rfl (w.heap.size + 2) #[.int .i64 sd, .int .i64 so, .int .i64 d1, .int .i64 d2, .int .i64 d3, .bool d4, .int .i64 d5, .int .i64 m1, .int .i64 m2, .int .i64 m3, .int .u32 ca, .int .i64 sh, .int .i64 (il + 1), .bool fa] _ 38 rfl rfl HB2.out.r2 (by kernel_rfl) rfl (by kernel_rfl) ?_
      intro w3 hr3 hg3
      have HB3 : Hid (Bx w [(w.heap.size, .cells #[.int .i64 f, .int .i64 d, .int .i64 r, .int .i64 pk, .float .f64 e1, .float .f64 e2, .float .f64 e3, .slice A cs.length cap, .int .i64 k, .int .i64 fl, .bool lv, .int .i64 dd, .bool bl, .int .u32 hu, .int .u32 hd] 67 (0, 0)), (w.heap.size + 1, .cells #[.int .i64 sd, .int .i64 so, .int .i64 d1, .int .i64 d2, .int .i64 d3, .bool d4, .int .i64 d5, .int .i64 m1, .int .i64 m2, .int .i64 m3, .int .u32 ca, .int .i64 sh, .int .i64 (il + 1), .bool fa] 38 (0, 0)), (w.heap.size + 2, .cells #[.int .i64 sd, .int .i64 so, .int .i64 d1, .int .i64 d2, .int .i64 d3, .bool d4, .int .i64 d5, .int .i64 m1, .int .i64 m2, .int .i64 m3, .int .u32 ca, .int .i64 sh, .int .i64 (il + 1), .bool fa] 38 (0, 0))] w3) := Lib.hid (HB2.out.put (by omega) hg3.out hr3.out (by simp only [List.mem_cons, List.not_mem_nil, or_false]; rintro p (rfl | rfl | rfl) <;> simp <;> omega))
      clear c0_0 c0_1 c0_2 c0_3 c0_4 c0_5 c0_6 c0_7 c0_8 c0_9 c0_10 c0_11 c0_12 c0_13 c0_14 c1_0 c1_1 c1_2 c1_3 c1_4 c1_5 c1_6 c1_7 c1_8 c1_9 c1_10 c1_11 c1_12 c1_13 hr3 hg3 HB2
      go_wp2_with fail
      exact bodyPost_ret (results_row_tmp Tryd.results59 _ _ _ _ _ (0, 0) _ rfl HB3.out.r2 Tryd.underlying38 rfl (by kernel_rfl)) rfl (⟨rfl, HB3.out.below⟩)
    · rw [show Nc.more il = 1000000 from if_neg h9]
      simp only [tickV, Nc.agg, BldD.agg, Fb.agg, Dr.agg, Mo.agg, Cs.agg] at *
      have HB0 := Lib.hid (bxs3 w (.cells #[.int .i64 f, .int .i64 d, .int .i64 r, .int .i64 pk, .float .f64 e1, .float .f64 e2, .float .f64 e3, .slice A cs.length cap, .int .i64 k, .int .i64 fl, .bool lv, .int .i64 dd, .bool bl, .int .u32 hu, .int .u32 hd] 67) (.cells #[.int .i64 sd, .int .i64 so, .int .i64 d1, .int .i64 d2, .int .i64 d3, .bool d4, .int .i64 d5, .int .i64 m1, .int .i64 m2, .int .i64 m3, .int .u32 ca, .int .i64 sh, .int .i64 il, .bool fa] 38) (.cells #[.int .i64 0, .int .i64 0, .int .i64 0, .int .i64 0, .int .i64 0, .bool false, .int .i64 0, .int .i64 0, .int .i64 0, .int .i64 0, .int .u32 0, .int .i64 0, .int .i64 0, .bool false] 38))
      go_enter Tryd.func59, Tryd.ntmps59
      go_wp2_with fail
      refine (FP.out _ HB0.out.below).mono ?_
      rintro e w1 ⟨rfl, hb1⟩
      have HB1 := Lib.hid (HB0.out.next hb1)
      clear hb1 HB0
      obtain ⟨c0_0, c0_1, c0_2, c0_3, c0_4, c0_5, c0_6, c0_7, c0_8, c0_9, c0_10, c0_11, c0_12, c0_13, c0_14⟩ := row15 (b := w.heap.size) HB1.out.r0
      obtain ⟨c1_0, c1_1, c1_2, c1_3, c1_4, c1_5, c1_6, c1_7, c1_8, c1_9, c1_10, c1_11, c1_12, c1_13⟩ := row14 (b := w.heap.size + 1) HB1.out.r1
      go_wp2_with (with_reducible show wpList _ _ _ (Oper.mk _ (.store 3 _ _) _ _ _ _ :: _) _ _; refine Hid.out ?_)
      refine Lib.hid ?_
      refine wpList_putCell rfl 3 _ _ rfl (w.heap.size + 1) 12 (.int .i64 1000000) _ _ 38 rfl rfl HB1.out.r1 (by kernel_rfl) (by simp) rfl rfl rfl ?_
      intro w2 hr2 hg2
      have HB2 : Hid (Bx w [(w.heap.size, .cells #[.int .i64 f, .int .i64 d, .int .i64 r, .int .i64 pk, .float .f64 e1, .float .f64 e2, .float .f64 e3, .slice A cs.length cap, .int .i64 k, .int .i64 fl, .bool lv, .int .i64 dd, .bool bl, .int .u32 hu, .int .u32 hd] 67 (0, 0)), (w.heap.size + 1, .cells #[.int .i64 sd, .int .i64 so, .int .i64 d1, .int .i64 d2, .int .i64 d3, .bool d4, .int .i64 d5, .int .i64 m1, .int .i64 m2, .int .i64 m3, .int .u32 ca, .int .i64 sh, .int .i64 1000000, .bool fa] 38 (0, 0)), (w.heap.size + 2, .cells #[.int .i64 0, .int .i64 0, .int .i64 0, .int .i64 0, .int .i64 0, .bool false, .int .i64 0, .int .i64 0, .int .i64 0, .int .i64 0, .int .u32 0, .int .i64 0, .int .i64 0, .bool false] 38 (0, 0))] w2) := Lib.hid (HB1.out.put (by omega) hg2.out hr2.out (by simp only [List.mem_cons, List.not_mem_nil, or_false]; rintro p (rfl | rfl | rfl) <;> simp <;> omega))
      clear c0_0 c0_1 c0_2 c0_3 c0_4 c0_5 c0_6 c0_7 c0_8 c0_9 c0_10 c0_11 c0_12 c0_13 c0_14 c1_0 c1_1 c1_2 c1_3 c1_4 c1_5 c1_6 c1_7 c1_8 c1_9 c1_10 c1_11 c1_12 c1_13 hr2 hg2 HB1
      obtain ⟨c0_0, c0_1, c0_2, c0_3, c0_4, c0_5, c0_6, c0_7, c0_8, c0_9, c0_10, c0_11, c0_12, c0_13, c0_14⟩ := row15 (b := w.heap.size) HB2.out.r0
      obtain ⟨c1_0, c1_1, c1_2, c1_3, c1_4, c1_5, c1_6, c1_7, c1_8, c1_9, c1_10, c1_11, c1_12, c1_13⟩ := row14 (b := w.heap.size + 1) HB2.out.r1
      go_wp2_with (with_reducible show wpList _ _ _ (Oper.mk _ (.store 38 _ _) _ _ _ _ :: _) _ _; refine Hid.out ?_)
      refine Lib.hid ?_
      refine wpList_put rfl 38 _ _ rfl (w.heap.size + 2) #[.int .i64 sd, .int .i64 so, .int .i64 d1, .int .i64 d2, .int .i64 d3, .bool d4, .int .i64 d5, .int .i64 m1, .int .i64 m2, .int .i64 m3, .int .u32 ca, .int .i64 sh, .int .i64 1000000, .bool fa] _ 38 rfl rfl HB2.out.r2 (by kernel_rfl) rfl (by kernel_rfl) ?_
      intro w3 hr3 hg3
      have HB3 : Hid (Bx w [(w.heap.size, .cells #[.int .i64 f, .int .i64 d, .int .i64 r, .int .i64 pk, .float .f64 e1, .float .f64 e2, .float .f64 e3, .slice A cs.length cap, .int .i64 k, .int .i64 fl, .bool lv, .int .i64 dd, .bool bl, .int .u32 hu, .int .u32 hd] 67 (0, 0)), (w.heap.size + 1, .cells #[.int .i64 sd, .int .i64 so, .int .i64 d1, .int .i64 d2, .int .i64 d3, .bool d4, .int .i64 d5, .int .i64 m1, .int .i64 m2, .int .i64 m3, .int .u32 ca, .int .i64 sh, .int .i64 1000000, .bool fa] 38 (0, 0)), (w.heap.size + 2, .cells #[.int .i64 sd, .int .i64 so, .int .i64 d1, .int .i64 d2, .int .i64 d3, .bool d4, .int .i64 d5, .int .i64 m1, .int .i64 m2, .int .i64 m3, .int .u32 ca, .int .i64 sh, .int .i64 1000000, .bool fa] 38 (0, 0))] w3) := Lib.hid (HB2.out.put (by omega) hg3.out hr3.out (by simp only [List.mem_cons, List.not_mem_nil, or_false]; rintro p (rfl | rfl | rfl) <;> simp <;> omega))
      clear c0_0 c0_1 c0_2 c0_3 c0_4 c0_5 c0_6 c0_7 c0_8 c0_9 c0_10 c0_11 c0_12 c0_13 c0_14 c1_0 c1_1 c1_2 c1_3 c1_4 c1_5 c1_6 c1_7 c1_8 c1_9 c1_10 c1_11 c1_12 c1_13 hr3 hg3 HB2
      go_wp2_with fail
      exact bodyPost_ret (results_row_tmp Tryd.results59 _ _ _ _ _ (0, 0) _ rfl HB3.out.r2 Tryd.underlying38 rfl (by kernel_rfl)) rfl (⟨rfl, HB3.out.below⟩)
  · rw [if_neg h0]
    have hB0 : (m == 0) = false := by simpa using h0
    have FM := Lib.hid (FM.out m)
    generalize Nc.move b.floors x s m = t at *
    obtain ⟨⟨ua, ub, ⟨u1, u2, u3, u4, u5⟩, ⟨v1, v2, v3⟩, uc, us, ui, uf⟩, um⟩ := t
    clear hs
    obtain ⟨f, d, r, pk, e1, e2, e3, cs⟩ := b
    obtain ⟨fl, lv, dd, bl⟩ := x
    obtain ⟨hu, hd⟩ := h
    obtain ⟨sd, so, ⟨d1, d2, d3, d4, d5⟩, ⟨m1, m2, m3⟩, ca, sh, il, fa⟩ := s
    simp only [tickV, Nc.agg, BldD.agg, Fb.agg, Dr.agg, Mo.agg, Cs.agg] at *
    have HB0 := Lib.hid (bxs3 w (.cells #[.int .i64 f, .int .i64 d, .int .i64 r, .int .i64 pk, .float .f64 e1, .float .f64 e2, .float .f64 e3, .slice A cs.length cap, .int .i64 k, .int .i64 fl, .bool lv, .int .i64 dd, .bool bl, .int .u32 hu, .int .u32 hd] 67) (.cells #[.int .i64 sd, .int .i64 so, .int .i64 d1, .int .i64 d2, .int .i64 d3, .bool d4, .int .i64 d5, .int .i64 m1, .int .i64 m2, .int .i64 m3, .int .u32 ca, .int .i64 sh, .int .i64 il, .bool fa] 38) (.cells #[.int .i64 0, .int .i64 0, .int .i64 0, .int .i64 0, .int .i64 0, .bool false, .int .i64 0, .int .i64 0, .int .i64 0, .int .i64 0, .int .u32 0, .int .i64 0, .int .i64 0, .bool false] 38))
    go_enter Tryd.func59, Tryd.ntmps59
    go_wp2_with fail
    refine (FP.out _ HB0.out.below).mono ?_
    rintro e w1 ⟨rfl, hb1⟩
    have HB1 := Lib.hid (HB0.out.next hb1)
    clear hb1 HB0
    obtain ⟨c0_0, c0_1, c0_2, c0_3, c0_4, c0_5, c0_6, c0_7, c0_8, c0_9, c0_10, c0_11, c0_12, c0_13, c0_14⟩ := row15 (b := w.heap.size) HB1.out.r0
    obtain ⟨c1_0, c1_1, c1_2, c1_3, c1_4, c1_5, c1_6, c1_7, c1_8, c1_9, c1_10, c1_11, c1_12, c1_13⟩ := row14 (b := w.heap.size + 1) HB1.out.r1
    go_wp2_with fail
    refine (FM.out _ HB1.out.below).mono ?_
    rintro e w2 ⟨rfl, hb2⟩
    have HB2 := Lib.hid (HB1.out.next hb2)
    clear c0_0 c0_1 c0_2 c0_3 c0_4 c0_5 c0_6 c0_7 c0_8 c0_9 c0_10 c0_11 c0_12 c0_13 c0_14 c1_0 c1_1 c1_2 c1_3 c1_4 c1_5 c1_6 c1_7 c1_8 c1_9 c1_10 c1_11 c1_12 c1_13 hb2 HB1
    obtain ⟨c0_0, c0_1, c0_2, c0_3, c0_4, c0_5, c0_6, c0_7, c0_8, c0_9, c0_10, c0_11, c0_12, c0_13, c0_14⟩ := row15 (b := w.heap.size) HB2.out.r0
    obtain ⟨c1_0, c1_1, c1_2, c1_3, c1_4, c1_5, c1_6, c1_7, c1_8, c1_9, c1_10, c1_11, c1_12, c1_13⟩ := row14 (b := w.heap.size + 1) HB2.out.r1
    go_wp2_with (with_reducible show wpList _ _ _ (Oper.mk _ (.store 38 _ _) _ _ _ _ :: _) _ _; refine Hid.out ?_)
    refine Lib.hid ?_
    refine wpList_put rfl 38 _ _ rfl (w.heap.size + 2) #[.int .i64 ua, .int .i64 ub, .int .i64 u1, .int .i64 u2, .int .i64 u3, .bool u4, .int .i64 u5, .int .i64 v1, .int .i64 v2, .int .i64 v3, .int .u32 (uc : Nat), .int .i64 us, .int .i64 ui, .bool uf] _ 38 rfl rfl HB2.out.r2 (by kernel_rfl) rfl (by kernel_rfl) ?_
    intro w3 hr3 hg3
    have HB3 : Hid (Bx w [(w.heap.size, .cells #[.int .i64 f, .int .i64 d, .int .i64 r, .int .i64 pk, .float .f64 e1, .float .f64 e2, .float .f64 e3, .slice A cs.length cap, .int .i64 k, .int .i64 fl, .bool lv, .int .i64 dd, .bool bl, .int .u32 hu, .int .u32 hd] 67 (0, 0)), (w.heap.size + 1, .cells #[.int .i64 sd, .int .i64 so, .int .i64 d1, .int .i64 d2, .int .i64 d3, .bool d4, .int .i64 d5, .int .i64 m1, .int .i64 m2, .int .i64 m3, .int .u32 ca, .int .i64 sh, .int .i64 il, .bool fa] 38 (0, 0)), (w.heap.size + 2, .cells #[.int .i64 ua, .int .i64 ub, .int .i64 u1, .int .i64 u2, .int .i64 u3, .bool u4, .int .i64 u5, .int .i64 v1, .int .i64 v2, .int .i64 v3, .int .u32 (uc : Nat), .int .i64 us, .int .i64 ui, .bool uf] 38 (0, 0))] w3) := Lib.hid (HB2.out.put (by omega) hg3.out hr3.out (by simp only [List.mem_cons, List.not_mem_nil, or_false]; rintro p (rfl | rfl | rfl) <;> simp <;> omega))
    clear c0_0 c0_1 c0_2 c0_3 c0_4 c0_5 c0_6 c0_7 c0_8 c0_9 c0_10 c0_11 c0_12 c0_13 c0_14 c1_0 c1_1 c1_2 c1_3 c1_4 c1_5 c1_6 c1_7 c1_8 c1_9 c1_10 c1_11 c1_12 c1_13 hr3 hg3 HB2
    go_wp2_with fail
    exact bodyPost_ret (results_row_tmp Tryd.results59 _ _ _ _ _ (0, 0) _ rfl HB3.out.r2 Tryd.underlying38 rfl (by kernel_rfl)) rfl (⟨rfl, HB3.out.below⟩)
set_option maxHeartbeats 4000000 in
theorem watched_any (c : CarD) (s : Nc) (m : Int) (w : World) :
    Calls Tryd.prog 19 #[c.agg, s.agg, .int .i64 m] w fun ee w' => ee = .returned (.tuple #[(Nc.watched c (s, m)).1.agg, .int .i64 (Nc.watched c (s, m)).2]) ∧ Below w.heap.size w w' := by
  obtain ⟨c1, c2, c3, c4, c5, c6, c7, c8, c9⟩ := c
  obtain ⟨sd, so, ⟨d1, d2, d3, d4, d5⟩, ⟨m1, m2, m3⟩, ca, sh, il, fa⟩ := s
  have F1 := Lib.hid (fun wx => late_any c1 c2 c3 c4 c5 c6 c7 c8 c9 d1 d2 d3 d4 d5 wx)
  have F2 := Lib.hid (fun wx => moLate_any c1 c2 c3 c4 c5 c6 c7 c8 c9 m1 m2 m3 wx)
  have FF := Lib.hid (fun wx => faulty_any wx)
  have hr : Nc.watched ⟨c1, c2, c3, c4, c5, c6, c7, c8, c9⟩ (⟨sd, so, ⟨d1, d2, d3, d4, d5⟩, ⟨m1, m2, m3⟩, ca, sh, il, fa⟩, m) = if (Dr.late c6 ⟨d1, d2, d3, d4, d5⟩ || Mo.late c5 ⟨m1, m2, m3⟩) = true then (Nc.faulty, 0) else (⟨sd, so, ⟨d1, d2, d3, d4, d5⟩, ⟨m1, m2, m3⟩, ca, sh, il, fa⟩, m) := rfl
  rw [hr]
  clear hr
  generalize Dr.late c6 ⟨d1, d2, d3, d4, d5⟩ = q1 at *
  generalize Mo.late c5 ⟨m1, m2, m3⟩ = q2 at *
  simp only [CarD.agg, Nc.agg, Nc.faulty, Dr.zero, Mo.zero] at *
  cases q1
  · cases q2
    · rw [if_neg (by decide)]
      have HB0 := Lib.hid (bxs3 w (.cells #[.int .i64 c1, .int .i64 c2, .int .i64 c3, .int .i64 c4, .int .i64 c5, .int .i64 c6, .int .i64 c7, .int .i64 c8, .int .i64 c9] 51) (.cells #[.int .i64 sd, .int .i64 so, .int .i64 d1, .int .i64 d2, .int .i64 d3, .bool d4, .int .i64 d5, .int .i64 m1, .int .i64 m2, .int .i64 m3, .int .u32 ca, .int .i64 sh, .int .i64 il, .bool fa] 38) (.cells #[.int .i64 0, .int .i64 0, .int .i64 0, .int .i64 0, .int .i64 0, .bool false, .int .i64 0, .int .i64 0, .int .i64 0, .int .i64 0, .int .u32 0, .int .i64 0, .int .i64 0, .bool false] 38))
      go_enter Tryd.func19, Tryd.ntmps19
      go_wp2_with fail
      refine (F1.out _).mono ?_
      rintro e w1 ⟨rfl, hb1⟩
      have HB1 := Lib.hid (HB0.out.next hb1)
      clear hb1 HB0
      obtain ⟨c0_0, c0_1, c0_2, c0_3, c0_4, c0_5, c0_6, c0_7, c0_8⟩ := row9 (b := w.heap.size) HB1.out.r0
      obtain ⟨c1_0, c1_1, c1_2, c1_3, c1_4, c1_5, c1_6, c1_7, c1_8, c1_9, c1_10, c1_11, c1_12, c1_13⟩ := row14 (b := w.heap.size + 1) HB1.out.r1
      go_wp2_with fail
      refine (F2.out _).mono ?_
      rintro e w2 ⟨rfl, hb2⟩
      have HB2 := Lib.hid (HB1.out.next hb2)
      clear c0_0 c0_1 c0_2 c0_3 c0_4 c0_5 c0_6 c0_7 c0_8 c1_0 c1_1 c1_2 c1_3 c1_4 c1_5 c1_6 c1_7 c1_8 c1_9 c1_10 c1_11 c1_12 c1_13 hb2 HB1
      obtain ⟨c0_0, c0_1, c0_2, c0_3, c0_4, c0_5, c0_6, c0_7, c0_8⟩ := row9 (b := w.heap.size) HB2.out.r0
      obtain ⟨c1_0, c1_1, c1_2, c1_3, c1_4, c1_5, c1_6, c1_7, c1_8, c1_9, c1_10, c1_11, c1_12, c1_13⟩ := row14 (b := w.heap.size + 1) HB2.out.r1
      go_wp2_with (with_reducible show wpList _ _ _ (Oper.mk _ (.store 38 _ _) _ _ _ _ :: _) _ _; refine Hid.out ?_)
      refine Lib.hid ?_
      refine wpList_put rfl 38 _ _ rfl (w.heap.size + 2) #[.int .i64 sd, .int .i64 so, .int .i64 d1, .int .i64 d2, .int .i64 d3, .bool d4, .int .i64 d5, .int .i64 m1, .int .i64 m2, .int .i64 m3, .int .u32 ca, .int .i64 sh, .int .i64 il, .bool fa] _ 38 rfl rfl HB2.out.r2 (by kernel_rfl) rfl (by kernel_rfl) ?_
      intro w3 hr3 hg3
      have HB3 : Hid (Bx w [(w.heap.size, .cells #[.int .i64 c1, .int .i64 c2, .int .i64 c3, .int .i64 c4, .int .i64 c5, .int .i64 c6, .int .i64 c7, .int .i64 c8, .int .i64 c9] 51 (0, 0)), (w.heap.size + 1, .cells #[.int .i64 sd, .int .i64 so, .int .i64 d1, .int .i64 d2, .int .i64 d3, .bool d4, .int .i64 d5, .int .i64 m1, .int .i64 m2, .int .i64 m3, .int .u32 ca, .int .i64 sh, .int .i64 il, .bool fa] 38 (0, 0)), (w.heap.size + 2, .cells #[.int .i64 sd, .int .i64 so, .int .i64 d1, .int .i64 d2, .int .i64 d3, .bool d4, .int .i64 d5, .int .i64 m1, .int .i64 m2, .int .i64 m3, .int .u32 ca, .int .i64 sh, .int .i64 il, .bool fa] 38 (0, 0))] w3) := Lib.hid (HB2.out.put (by omega) hg3.out hr3.out (by simp only [List.mem_cons, List.not_mem_nil, or_false]; rintro p (rfl | rfl | rfl) <;> simp <;> omega))
      clear c0_0 c0_1 c0_2 c0_3 c0_4 c0_5 c0_6 c0_7 c0_8 c1_0 c1_1 c1_2 c1_3 c1_4 c1_5 c1_6 c1_7 c1_8 c1_9 c1_10 c1_11 c1_12 c1_13 hr3 hg3 HB2
      go_wp2_with fail
      exact bodyPost_ret (results_row_tmp Tryd.results19 _ _ _ _ _ (0, 0) _ rfl HB3.out.r2 Tryd.underlying38 rfl (by kernel_rfl)) rfl (⟨rfl, HB3.out.below⟩)
    · rw [if_pos (by simp)]
      have HB0 := Lib.hid (bxs3 w (.cells #[.int .i64 c1, .int .i64 c2, .int .i64 c3, .int .i64 c4, .int .i64 c5, .int .i64 c6, .int .i64 c7, .int .i64 c8, .int .i64 c9] 51) (.cells #[.int .i64 sd, .int .i64 so, .int .i64 d1, .int .i64 d2, .int .i64 d3, .bool d4, .int .i64 d5, .int .i64 m1, .int .i64 m2, .int .i64 m3, .int .u32 ca, .int .i64 sh, .int .i64 il, .bool fa] 38) (.cells #[.int .i64 0, .int .i64 0, .int .i64 0, .int .i64 0, .int .i64 0, .bool false, .int .i64 0, .int .i64 0, .int .i64 0, .int .i64 0, .int .u32 0, .int .i64 0, .int .i64 0, .bool false] 38))
      go_enter Tryd.func19, Tryd.ntmps19
      go_wp2_with fail
      refine (F1.out _).mono ?_
      rintro e w1 ⟨rfl, hb1⟩
      have HB1 := Lib.hid (HB0.out.next hb1)
      clear hb1 HB0
      obtain ⟨c0_0, c0_1, c0_2, c0_3, c0_4, c0_5, c0_6, c0_7, c0_8⟩ := row9 (b := w.heap.size) HB1.out.r0
      obtain ⟨c1_0, c1_1, c1_2, c1_3, c1_4, c1_5, c1_6, c1_7, c1_8, c1_9, c1_10, c1_11, c1_12, c1_13⟩ := row14 (b := w.heap.size + 1) HB1.out.r1
      go_wp2_with fail
      refine (F2.out _).mono ?_
      rintro e w2 ⟨rfl, hb2⟩
      have HB2 := Lib.hid (HB1.out.next hb2)
      clear c0_0 c0_1 c0_2 c0_3 c0_4 c0_5 c0_6 c0_7 c0_8 c1_0 c1_1 c1_2 c1_3 c1_4 c1_5 c1_6 c1_7 c1_8 c1_9 c1_10 c1_11 c1_12 c1_13 hb2 HB1
      obtain ⟨c0_0, c0_1, c0_2, c0_3, c0_4, c0_5, c0_6, c0_7, c0_8⟩ := row9 (b := w.heap.size) HB2.out.r0
      obtain ⟨c1_0, c1_1, c1_2, c1_3, c1_4, c1_5, c1_6, c1_7, c1_8, c1_9, c1_10, c1_11, c1_12, c1_13⟩ := row14 (b := w.heap.size + 1) HB2.out.r1
      go_wp2_with fail
      refine (FF.out _).mono ?_
      rintro e w3 ⟨rfl, hb3⟩
      have HB3 := Lib.hid (HB2.out.next hb3)
      clear c0_0 c0_1 c0_2 c0_3 c0_4 c0_5 c0_6 c0_7 c0_8 c1_0 c1_1 c1_2 c1_3 c1_4 c1_5 c1_6 c1_7 c1_8 c1_9 c1_10 c1_11 c1_12 c1_13 hb3 HB2
      obtain ⟨c0_0, c0_1, c0_2, c0_3, c0_4, c0_5, c0_6, c0_7, c0_8⟩ := row9 (b := w.heap.size) HB3.out.r0
      obtain ⟨c1_0, c1_1, c1_2, c1_3, c1_4, c1_5, c1_6, c1_7, c1_8, c1_9, c1_10, c1_11, c1_12, c1_13⟩ := row14 (b := w.heap.size + 1) HB3.out.r1
      go_wp2_with (with_reducible show wpList _ _ _ (Oper.mk _ (.store 38 _ _) _ _ _ _ :: _) _ _; refine Hid.out ?_)
      refine Lib.hid ?_
      refine wpList_put rfl 38 _ _ rfl (w.heap.size + 2) #[.int .i64 0, .int .i64 0, .int .i64 0, .int .i64 0, .int .i64 0, .bool false, .int .i64 0, .int .i64 0, .int .i64 0, .int .i64 0, .int .u32 0, .int .i64 0, .int .i64 0, .bool true] _ 38 rfl rfl HB3.out.r2 (by kernel_rfl) rfl (by kernel_rfl) ?_
      intro w4 hr4 hg4
      have HB4 : Hid (Bx w [(w.heap.size, .cells #[.int .i64 c1, .int .i64 c2, .int .i64 c3, .int .i64 c4, .int .i64 c5, .int .i64 c6, .int .i64 c7, .int .i64 c8, .int .i64 c9] 51 (0, 0)), (w.heap.size + 1, .cells #[.int .i64 sd, .int .i64 so, .int .i64 d1, .int .i64 d2, .int .i64 d3, .bool d4, .int .i64 d5, .int .i64 m1, .int .i64 m2, .int .i64 m3, .int .u32 ca, .int .i64 sh, .int .i64 il, .bool fa] 38 (0, 0)), (w.heap.size + 2, .cells #[.int .i64 0, .int .i64 0, .int .i64 0, .int .i64 0, .int .i64 0, .bool false, .int .i64 0, .int .i64 0, .int .i64 0, .int .i64 0, .int .u32 0, .int .i64 0, .int .i64 0, .bool true] 38 (0, 0))] w4) := Lib.hid (HB3.out.put (by omega) hg4.out hr4.out (by simp only [List.mem_cons, List.not_mem_nil, or_false]; rintro p (rfl | rfl | rfl) <;> simp <;> omega))
      clear c0_0 c0_1 c0_2 c0_3 c0_4 c0_5 c0_6 c0_7 c0_8 c1_0 c1_1 c1_2 c1_3 c1_4 c1_5 c1_6 c1_7 c1_8 c1_9 c1_10 c1_11 c1_12 c1_13 hr4 hg4 HB3
      go_wp2_with fail
      exact bodyPost_ret (results_row_tmp Tryd.results19 _ _ _ _ _ (0, 0) _ rfl HB4.out.r2 Tryd.underlying38 rfl (by kernel_rfl)) rfl (⟨rfl, HB4.out.below⟩)
  · rw [if_pos (by simp)]
    have HB0 := Lib.hid (bxs3 w (.cells #[.int .i64 c1, .int .i64 c2, .int .i64 c3, .int .i64 c4, .int .i64 c5, .int .i64 c6, .int .i64 c7, .int .i64 c8, .int .i64 c9] 51) (.cells #[.int .i64 sd, .int .i64 so, .int .i64 d1, .int .i64 d2, .int .i64 d3, .bool d4, .int .i64 d5, .int .i64 m1, .int .i64 m2, .int .i64 m3, .int .u32 ca, .int .i64 sh, .int .i64 il, .bool fa] 38) (.cells #[.int .i64 0, .int .i64 0, .int .i64 0, .int .i64 0, .int .i64 0, .bool false, .int .i64 0, .int .i64 0, .int .i64 0, .int .i64 0, .int .u32 0, .int .i64 0, .int .i64 0, .bool false] 38))
    go_enter Tryd.func19, Tryd.ntmps19
    go_wp2_with fail
    refine (F1.out _).mono ?_
    rintro e w1 ⟨rfl, hb1⟩
    have HB1 := Lib.hid (HB0.out.next hb1)
    clear hb1 HB0
    obtain ⟨c0_0, c0_1, c0_2, c0_3, c0_4, c0_5, c0_6, c0_7, c0_8⟩ := row9 (b := w.heap.size) HB1.out.r0
    obtain ⟨c1_0, c1_1, c1_2, c1_3, c1_4, c1_5, c1_6, c1_7, c1_8, c1_9, c1_10, c1_11, c1_12, c1_13⟩ := row14 (b := w.heap.size + 1) HB1.out.r1
    go_wp2_with fail
    refine (FF.out _).mono ?_
    rintro e w2 ⟨rfl, hb2⟩
    have HB2 := Lib.hid (HB1.out.next hb2)
    clear c0_0 c0_1 c0_2 c0_3 c0_4 c0_5 c0_6 c0_7 c0_8 c1_0 c1_1 c1_2 c1_3 c1_4 c1_5 c1_6 c1_7 c1_8 c1_9 c1_10 c1_11 c1_12 c1_13 hb2 HB1
    obtain ⟨c0_0, c0_1, c0_2, c0_3, c0_4, c0_5, c0_6, c0_7, c0_8⟩ := row9 (b := w.heap.size) HB2.out.r0
    obtain ⟨c1_0, c1_1, c1_2, c1_3, c1_4, c1_5, c1_6, c1_7, c1_8, c1_9, c1_10, c1_11, c1_12, c1_13⟩ := row14 (b := w.heap.size + 1) HB2.out.r1
    go_wp2_with (with_reducible show wpList _ _ _ (Oper.mk _ (.store 38 _ _) _ _ _ _ :: _) _ _; refine Hid.out ?_)
    refine Lib.hid ?_
    refine wpList_put rfl 38 _ _ rfl (w.heap.size + 2) #[.int .i64 0, .int .i64 0, .int .i64 0, .int .i64 0, .int .i64 0, .bool false, .int .i64 0, .int .i64 0, .int .i64 0, .int .i64 0, .int .u32 0, .int .i64 0, .int .i64 0, .bool true] _ 38 rfl rfl HB2.out.r2 (by kernel_rfl) rfl (by kernel_rfl) ?_
    intro w3 hr3 hg3
    have HB3 : Hid (Bx w [(w.heap.size, .cells #[.int .i64 c1, .int .i64 c2, .int .i64 c3, .int .i64 c4, .int .i64 c5, .int .i64 c6, .int .i64 c7, .int .i64 c8, .int .i64 c9] 51 (0, 0)), (w.heap.size + 1, .cells #[.int .i64 sd, .int .i64 so, .int .i64 d1, .int .i64 d2, .int .i64 d3, .bool d4, .int .i64 d5, .int .i64 m1, .int .i64 m2, .int .i64 m3, .int .u32 ca, .int .i64 sh, .int .i64 il, .bool fa] 38 (0, 0)), (w.heap.size + 2, .cells #[.int .i64 0, .int .i64 0, .int .i64 0, .int .i64 0, .int .i64 0, .bool false, .int .i64 0, .int .i64 0, .int .i64 0, .int .i64 0, .int .u32 0, .int .i64 0, .int .i64 0, .bool true] 38 (0, 0))] w3) := Lib.hid (HB2.out.put (by omega) hg3.out hr3.out (by simp only [List.mem_cons, List.not_mem_nil, or_false]; rintro p (rfl | rfl | rfl) <;> simp <;> omega))
    clear c0_0 c0_1 c0_2 c0_3 c0_4 c0_5 c0_6 c0_7 c0_8 c1_0 c1_1 c1_2 c1_3 c1_4 c1_5 c1_6 c1_7 c1_8 c1_9 c1_10 c1_11 c1_12 c1_13 hr3 hg3 HB2
    go_wp2_with fail
    exact bodyPost_ret (results_row_tmp Tryd.results19 _ _ _ _ _ (0, 0) _ rfl HB3.out.r2 Tryd.underlying38 rfl (by kernel_rfl)) rfl (⟨rfl, HB3.out.below⟩)
end Go.Proofs.YtnjcegkefjdgdaaDoor
