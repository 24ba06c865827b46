/- Blind and Shows of package newcar. No statement of the seat is proved here. -/
import Derived.Test.YtnjcegkefjdgdaaDoorNcStep
namespace Go.Proofs.YtnjcegkefjdgdaaDoor
open Go.RowKit
set_option maxRecDepth 4000
set_option linter.unusedSimpArgs false

set_option maxHeartbeats 16000000 in
theorem ncBlind_any (b : BldD) (A : Option Addr) (cap : Nat) (k : Int) (s : Nc) (w : World) (hw : NcW b A w) (hn : b.cars.length ≤ 140737488355328) (hca : s.ca < 4294967296) :
    Calls Tryd.prog 8 #[b.agg A cap, .int .i64 k, s.agg] w fun ee w' => ee = .returned (.tuple #[(Nc.blindF b k s).1.agg, .int .i64 (Nc.blindF b k s).2.1, .int .i64 (Nc.blindF b k s).2.2]) ∧ Below w.heap.size w w' := by
  have FI := Lib.hid (fun wx (hb : Below w.heap.size w wx) => ncIsCar_any b A cap k s wx (hw.below hb) hn hca)
  cases hic : Nc.isCar b k s
  · rw [hic] at FI
    rw [show Nc.blindF b k s = (Nc.zero, 0, 1) from if_neg (fun e => by rw [hic] at e; cases e)]
    rw [show Nc.zero.agg = .agg #[.int .i64 0, .int .i64 0, .int .i64 0, .int .i64 0, .int .i64 0, .bool false, .int .i64 0, .int .i64 0, .int .i64 0, .int .i64 0, .int .u32 0, .int .i64 0, .int .i64 0, .bool false] from rfl]
    clear hic hw hn hca
    obtain ⟨f, d, r, pk, e1, e2, e3, cs⟩ := b
    obtain ⟨sd, so, ⟨d1, d2, d3, d4, d5⟩, ⟨m1, m2, m3⟩, ca, sh, il, fa⟩ := s
    simp only [BldD.agg, Nc.agg, Dr.agg, Mo.agg, CarD.agg] at *
    have HB0 := Lib.hid (bxs3 w (.cells #[.int .i64 f, .int .i64 d, .int .i64 r, .int .i64 pk, .float .f64 e1, .float .f64 e2, .float .f64 e3, .slice A cs.length cap] 27) (.cells #[.int .i64 sd, .int .i64 so, .int .i64 d1, .int .i64 d2, .int .i64 d3, .bool d4, .int .i64 d5, .int .i64 m1, .int .i64 m2, .int .i64 m3, .int .u32 ca, .int .i64 sh, .int .i64 il, .bool fa] 38) (.cells #[.int .i64 0, .int .i64 0, .int .i64 0, .int .i64 0, .int .i64 0, .bool false, .int .i64 0, .int .i64 0, .int .i64 0, .int .i64 0, .int .u32 0, .int .i64 0, .int .i64 0, .bool false] 38))
    go_enter Tryd.func8, Tryd.ntmps8
    go_wp2_with fail
    refine (FI.out _ HB0.out.below).mono ?_
    rintro e w1 ⟨rfl, hb1⟩
    have HB1 := Lib.hid (HB0.out.next hb1)
    clear hb1 HB0
    obtain ⟨c0_0, c0_1, c0_2, c0_3, c0_4, c0_5, c0_6, c0_7⟩ := row8 (b := w.heap.size) HB1.out.r0
    obtain ⟨c1_0, c1_1, c1_2, c1_3, c1_4, c1_5, c1_6, c1_7, c1_8, c1_9, c1_10, c1_11, c1_12, c1_13⟩ := row14 (b := w.heap.size + 1) HB1.out.r1
    go_wp2_with (with_reducible show wpList _ _ _ (Oper.mk _ (.store 38 _ _) _ _ _ _ :: _) _ _; refine Hid.out ?_)
    refine Lib.hid ?_
    refine wpList_put rfl 38 _ _ rfl (w.heap.size + 2) #[.int .i64 0, .int .i64 0, .int .i64 0, .int .i64 0, .int .i64 0, .bool false, .int .i64 0, .int .i64 0, .int .i64 0, .int .i64 0, .int .u32 0, .int .i64 0, .int .i64 0, .bool false] _ 38 rfl rfl HB1.out.r2 (by kernel_rfl) rfl (by kernel_rfl) ?_
    intro w2 hr2 hg2
    have HB2 : Hid (Bx w [(w.heap.size, .cells #[.int .i64 f, .int .i64 d, .int .i64 r, .int .i64 pk, .float .f64 e1, .float .f64 e2, .float .f64 e3, .slice A cs.length cap] 27 (0, 0)), (w.heap.size + 1, .cells #[.int .i64 sd, .int .i64 so, .int .i64 d1, .int .i64 d2, .int .i64 d3, .bool d4, .int .i64 d5, .int .i64 m1, .int .i64 m2, .int .i64 m3, .int .u32 ca, .int .i64 sh, .int .i64 il, .bool fa] 38 (0, 0)), (w.heap.size + 2, .cells #[.int .i64 0, .int .i64 0, .int .i64 0, .int .i64 0, .int .i64 0, .bool false, .int .i64 0, .int .i64 0, .int .i64 0, .int .i64 0, .int .u32 0, .int .i64 0, .int .i64 0, .bool false] 38 (0, 0))] w2) := Lib.hid (HB1.out.put (by omega) hg2.out hr2.out (by simp only [List.mem_cons, List.not_mem_nil, or_false]; rintro p (rfl | rfl | rfl) <;> simp <;> omega))
    clear c0_0 c0_1 c0_2 c0_3 c0_4 c0_5 c0_6 c0_7 c1_0 c1_1 c1_2 c1_3 c1_4 c1_5 c1_6 c1_7 c1_8 c1_9 c1_10 c1_11 c1_12 c1_13 hr2 hg2 HB1
    go_wp2_with fail
    exact bodyPost_ret (results_row_tmp2 Tryd.results8 _ _ _ _ _ (0, 0) _ rfl HB2.out.r2 Tryd.underlying38 rfl (by kernel_rfl)) rfl (⟨rfl, HB2.out.below⟩)
  · obtain ⟨hib, hk⟩ := Nc.isCar_of hic
    rw [hic] at FI
    rw [show Nc.blindF b k s = ((Nc.blindG (Nc.carAt b k) s).1, (Nc.blindG (Nc.carAt b k) s).2, 0) from if_pos hic]
    have FD := Lib.hid (fun wx => skip_any s.dr.st s.dr.ti s.dr.si s.dr.nu s.dr.cy wx)
    have FM := Lib.hid (fun wx => moSkip_any s.mo.c s.mo.t s.mo.f wx)
    have FW := Lib.hid (fun (c : CarD) (r : Nc) wx => watched_any c r 0 wx)
    rw [show Nc.blindG (Nc.carAt b k) s = Nc.watched (Nc.carAt b k) (⟨s.sd, s.so, Dr.skipF ⟨s.dr.st, s.dr.ti, s.dr.si, s.dr.nu, s.dr.cy⟩, Mo.skipF ⟨s.mo.c, s.mo.t, s.mo.f⟩, s.ca, s.sh, s.il, s.fa⟩, 0) from rfl]
    generalize Dr.skipF ⟨s.dr.st, s.dr.ti, s.dr.si, s.dr.nu, s.dr.cy⟩ = dq at *
    generalize Mo.skipF ⟨s.mo.c, s.mo.t, s.mo.f⟩ = mq at *
    have FW := Lib.hid (fun wx => FW.out (Nc.carAt b k) ⟨s.sd, s.so, dq, mq, s.ca, s.sh, s.il, s.fa⟩ wx)
    obtain ⟨j, rfl⟩ := Int.eq_ofNat_of_zero_le hk.1
    obtain ⟨B, off, c1, c2, c3, c4, c5, c6, c7, c8, c9, rfl, hcar, HKC⟩ := hw.car (show j < b.cars.length by omega)
    rw [hcar] at FW ⊢
    generalize Nc.watched ⟨c1, c2, c3, c4, c5, c6, c7, c8, c9⟩ (⟨s.sd, s.so, dq, mq, s.ca, s.sh, s.il, s.fa⟩, 0) = t at *
    clear hcar hw hn hca hic hib
    obtain ⟨hk0, hk1⟩ := hk
    obtain ⟨a1, a2, a3, a4, a5⟩ := dq
    obtain ⟨n1, n2, n3⟩ := mq
    obtain ⟨⟨ua, ub, ⟨u1, u2, u3, u4, u5⟩, ⟨v1, v2, v3⟩, uc, us, ui, uf⟩, um⟩ := t
    obtain ⟨f, d, r, pk, e1, e2, e3, cs⟩ := b
    obtain ⟨sd, so, ⟨d1, d2, d3, d4, d5⟩, ⟨m1, m2, m3⟩, ca, sh, il, fa⟩ := s
    simp only [BldD.agg, Nc.agg, Dr.agg, Mo.agg, CarD.agg] at *
    have HB0 := Lib.hid (bxs3 w (.cells #[.int .i64 f, .int .i64 d, .int .i64 r, .int .i64 pk, .float .f64 e1, .float .f64 e2, .float .f64 e3, .slice (some ⟨B, off, none⟩) cs.length cap] 27) (.cells #[.int .i64 sd, .int .i64 so, .int .i64 d1, .int .i64 d2, .int .i64 d3, .bool d4, .int .i64 d5, .int .i64 m1, .int .i64 m2, .int .i64 m3, .int .u32 ca, .int .i64 sh, .int .i64 il, .bool fa] 38) (.cells #[.int .i64 0, .int .i64 0, .int .i64 0, .int .i64 0, .int .i64 0, .bool false, .int .i64 0, .int .i64 0, .int .i64 0, .int .i64 0, .int .u32 0, .int .i64 0, .int .i64 0, .bool false] 38))
    go_enter Tryd.func8, Tryd.ntmps8
    go_wp2_with fail
    refine (FI.out _ HB0.out.below).mono ?_
    rintro e w1 ⟨rfl, hb1⟩
    have HB1 := Lib.hid (HB0.out.next hb1)
    clear hb1 HB0
    obtain ⟨c0_0, c0_1, c0_2, c0_3, c0_4, c0_5, c0_6, c0_7⟩ := row8 (b := w.heap.size) HB1.out.r0
    obtain ⟨c1_0, c1_1, c1_2, c1_3, c1_4, c1_5, c1_6, c1_7, c1_8, c1_9, c1_10, c1_11, c1_12, c1_13⟩ := row14 (b := w.heap.size + 1) HB1.out.r1
    go_wp2_with fail
    have q0 : w.heap.size < w1.heap.size := (Array.getElem?_eq_some_iff.1 HB1.out.r0).1
    have q1 : w.heap.size + 1 < w1.heap.size := (Array.getElem?_eq_some_iff.1 HB1.out.r1).1
    have q2 : w.heap.size + 2 < w1.heap.size := (Array.getElem?_eq_some_iff.1 HB1.out.r2).1
    refine Chain.chain (fun p wx => Put (w1) (w.heap.size + 1) (.cells (if p = 0 then #[.int .i64 sd, .int .i64 so, .int .i64 d1, .int .i64 d2, .int .i64 d3, .bool d4, .int .i64 d5, .int .i64 m1, .int .i64 m2, .int .i64 m3, .int .u32 ca, .int .i64 sh, .int .i64 il, .bool fa] else if p = 1 then #[.int .i64 sd, .int .i64 so, .int .i64 a1, .int .i64 a2, .int .i64 a3, .bool a4, .int .i64 a5, .int .i64 m1, .int .i64 m2, .int .i64 m3, .int .u32 ca, .int .i64 sh, .int .i64 il, .bool fa] else #[.int .i64 sd, .int .i64 so, .int .i64 a1, .int .i64 a2, .int .i64 a3, .bool a4, .int .i64 a5, .int .i64 n1, .int .i64 n2, .int .i64 n3, .int .u32 ca, .int .i64 sh, .int .i64 il, .bool fa]) 38 (0, 0)) wx) (fun _ _ => False) [7, 9] (by kernel_rfl) (by kernel_rfl) (fun _ _ _ _ h => h.elim) ((Put.start HB1.out.r1).drew) ?_
    apply Chain.walk_quiet (by rfl) (by decide)
    · intro p wx hp hwn hx K hK
      go_simp
      first
        | (go_at_call 20; (with_reducible refine (FD.out _).mono ?_); rintro e x1 ⟨rfl, hb⟩; exact hK _ (hx.next hb))
        | (go_at_call 21; (with_reducible refine (FM.out _).mono ?_); rintro e x1 ⟨rfl, hb⟩; exact hK _ (hx.next hb))
        | (go_at_K; exact hK _ hx)
    · exact ⟨_, rfl⟩
    apply Chain.walk_quiet (by rfl) (by decide)
    · intro p wx hp hwn hx K hK
      obtain rfl : p = 0 := (by have h : p ≤ 2 := hp; rcases (show p = 0 ∨ p = 1 ∨ p = 2 by omega) with h | h | h; exact h; all_goals (subst h; exact absurd ((Eq.symm (show _ = false by kernel_rfl)).trans hwn) Bool.false_ne_true))
      have hx0 : Put w1 (w.heap.size + 1) (.cells #[.int .i64 sd, .int .i64 so, .int .i64 d1, .int .i64 d2, .int .i64 d3, .bool d4, .int .i64 d5, .int .i64 m1, .int .i64 m2, .int .i64 m3, .int .u32 ca, .int .i64 sh, .int .i64 il, .bool fa] 38 (0, 0)) wx := hx
      have z1_2 : wx.cell? ⟨w.heap.size + 1, 2, none⟩ = some (.int .i64 d1) := cell_of_row _ _ _ _ _ (0, 0) hx0.row
      have z1_3 : wx.cell? ⟨w.heap.size + 1, 3, none⟩ = some (.int .i64 d2) := cell_of_row _ _ _ _ _ (0, 0) hx0.row
      have z1_4 : wx.cell? ⟨w.heap.size + 1, 4, none⟩ = some (.int .i64 d3) := cell_of_row _ _ _ _ _ (0, 0) hx0.row
      have z1_5 : wx.cell? ⟨w.heap.size + 1, 5, none⟩ = some (.bool d4) := cell_of_row _ _ _ _ _ (0, 0) hx0.row
      have z1_6 : wx.cell? ⟨w.heap.size + 1, 6, none⟩ = some (.int .i64 d5) := cell_of_row _ _ _ _ _ (0, 0) hx0.row
      go_simp
      first
        | (go_at_call 20; (with_reducible refine (FD.out _).mono ?_); rintro e x1 ⟨rfl, hb⟩; exact hK _ (hx.next hb))
        | (go_at_call 21; (with_reducible refine (FM.out _).mono ?_); rintro e x1 ⟨rfl, hb⟩; exact hK _ (hx.next hb))
        | (go_at_K; exact hK _ hx)
    iterate 2
      · exact ⟨_, rfl⟩
      apply Chain.walk_quiet (by rfl) (by decide)
      · intro p wx hp hwn hx K hK
        go_simp
        first
          | (go_at_call 20; (with_reducible refine (FD.out _).mono ?_); rintro e x1 ⟨rfl, hb⟩; exact hK _ (hx.next hb))
          | (go_at_call 21; (with_reducible refine (FM.out _).mono ?_); rintro e x1 ⟨rfl, hb⟩; exact hK _ (hx.next hb))
          | (go_at_K; exact hK _ hx)
    · exact ⟨_, rfl⟩
    apply Chain.walk_quiet (by rfl) (by decide)
    · intro p wx hp hwn hx K hK
      obtain rfl : p = 0 := (by have h : p ≤ 2 := hp; rcases (show p = 0 ∨ p = 1 ∨ p = 2 by omega) with h | h | h; exact h; all_goals (subst h; exact absurd ((Eq.symm (show _ = false by kernel_rfl)).trans hwn) Bool.false_ne_true))
      have hx0 : Put w1 (w.heap.size + 1) (.cells #[.int .i64 sd, .int .i64 so, .int .i64 d1, .int .i64 d2, .int .i64 d3, .bool d4, .int .i64 d5, .int .i64 m1, .int .i64 m2, .int .i64 m3, .int .u32 ca, .int .i64 sh, .int .i64 il, .bool fa] 38 (0, 0)) wx := hx
      have z1_7 : wx.cell? ⟨w.heap.size + 1, 7, none⟩ = some (.int .i64 m1) := cell_of_row _ _ _ _ _ (0, 0) hx0.row
      have z1_8 : wx.cell? ⟨w.heap.size + 1, 8, none⟩ = some (.int .i64 m2) := cell_of_row _ _ _ _ _ (0, 0) hx0.row
      have z1_9 : wx.cell? ⟨w.heap.size + 1, 9, none⟩ = some (.int .i64 m3) := cell_of_row _ _ _ _ _ (0, 0) hx0.row
      go_simp
      first
        | (go_at_call 20; (with_reducible refine (FD.out _).mono ?_); rintro e x1 ⟨rfl, hb⟩; exact hK _ (hx.next hb))
        | (go_at_call 21; (with_reducible refine (FM.out _).mono ?_); rintro e x1 ⟨rfl, hb⟩; exact hK _ (hx.next hb))
        | (go_at_K; exact hK _ hx)
    iterate 2
      · exact ⟨_, rfl⟩
      apply Chain.walk_quiet (by rfl) (by decide)
      · intro p wx hp hwn hx K hK
        go_simp
        first
          | (go_at_call 20; (with_reducible refine (FD.out _).mono ?_); rintro e x1 ⟨rfl, hb⟩; exact hK _ (hx.next hb))
          | (go_at_call 21; (with_reducible refine (FM.out _).mono ?_); rintro e x1 ⟨rfl, hb⟩; exact hK _ (hx.next hb))
          | (go_at_K; exact hK _ hx)
    · exact ⟨_, rfl⟩
    apply Chain.walk_turn 0 (by rfl) (by rfl)
    · intro wx hx K hK
      have hx1 : Put (w1) (w.heap.size + 1) (.cells #[.int .i64 sd, .int .i64 so, .int .i64 d1, .int .i64 d2, .int .i64 d3, .bool d4, .int .i64 d5, .int .i64 m1, .int .i64 m2, .int .i64 m3, .int .u32 ca, .int .i64 sh, .int .i64 il, .bool fa] 38 (0, 0)) wx := hx
      exact Put.storeMid 33 _ _ 2 rfl rfl rfl hx1 (by kernel_rfl) (by simp) (by kernel_rfl) rfl (fun w2 h => hK w2 h)
    · exact ⟨undef, rfl⟩
    try simp only [Act.put, List.setIfInBounds_toArray, List.set_cons_succ, List.set_cons_zero]
    apply Chain.walk_quiet (by rfl) (by decide)
    · intro p wx hp hwn hx K hK
      go_simp
      first
        | (go_at_call 20; (with_reducible refine (FD.out _).mono ?_); rintro e x1 ⟨rfl, hb⟩; exact hK _ (hx.next hb))
        | (go_at_call 21; (with_reducible refine (FM.out _).mono ?_); rintro e x1 ⟨rfl, hb⟩; exact hK _ (hx.next hb))
        | (go_at_K; exact hK _ hx)
    · exact ⟨_, rfl⟩
    apply Chain.walk_turn 1 (by rfl) (by rfl)
    · intro wx hx K hK
      have hx1 : Put (w1) (w.heap.size + 1) (.cells #[.int .i64 sd, .int .i64 so, .int .i64 a1, .int .i64 a2, .int .i64 a3, .bool a4, .int .i64 a5, .int .i64 m1, .int .i64 m2, .int .i64 m3, .int .u32 ca, .int .i64 sh, .int .i64 il, .bool fa] 38 (0, 0)) wx := hx
      exact Put.storeMid 35 _ _ 7 rfl rfl rfl hx1 (by kernel_rfl) (by simp) (by kernel_rfl) rfl (fun w2 h => hK w2 h)
    · exact ⟨undef, rfl⟩
    try simp only [Act.put, List.setIfInBounds_toArray, List.set_cons_succ, List.set_cons_zero]
    refine Chain.walk_nil (fun w2 hp2 => ?_)
    replace hp2 : Put (w1) (w.heap.size + 1) (.cells #[.int .i64 sd, .int .i64 so, .int .i64 a1, .int .i64 a2, .int .i64 a3, .bool a4, .int .i64 a5, .int .i64 n1, .int .i64 n2, .int .i64 n3, .int .u32 ca, .int .i64 sh, .int .i64 il, .bool fa] 38 (0, 0)) w2 := hp2
    try simp only [Act.put, List.setIfInBounds_toArray, List.set_cons_succ, List.set_cons_zero]
    have HB2 : Hid (Bx w [(w.heap.size, .cells #[.int .i64 f, .int .i64 d, .int .i64 r, .int .i64 pk, .float .f64 e1, .float .f64 e2, .float .f64 e3, .slice (some ⟨B, off, none⟩) cs.length cap] 27 (0, 0)), (w.heap.size + 1, .cells #[.int .i64 sd, .int .i64 so, .int .i64 a1, .int .i64 a2, .int .i64 a3, .bool a4, .int .i64 a5, .int .i64 n1, .int .i64 n2, .int .i64 n3, .int .u32 ca, .int .i64 sh, .int .i64 il, .bool fa] 38 (0, 0)), (w.heap.size + 2, .cells #[.int .i64 0, .int .i64 0, .int .i64 0, .int .i64 0, .int .i64 0, .bool false, .int .i64 0, .int .i64 0, .int .i64 0, .int .i64 0, .int .u32 0, .int .i64 0, .int .i64 0, .bool false] 38 (0, 0))] w2) := Lib.hid (HB1.out.ofPut (by omega) hp2 (by simp only [List.mem_cons, List.not_mem_nil, or_false]; rintro p (rfl | rfl | rfl) <;> simp <;> omega))
    clear c0_0 c0_1 c0_2 c0_3 c0_4 c0_5 c0_6 c0_7 c1_0 c1_1 c1_2 c1_3 c1_4 c1_5 c1_6 c1_7 c1_8 c1_9 c1_10 c1_11 c1_12 c1_13 hp2 HB1 q0 q1 q2
    obtain ⟨-, -, -, -, -, -, -, c0_7⟩ := row8 (b := w.heap.size) HB2.out.r0
    go_wp2_with fail
    have q0 : w.heap.size < w2.heap.size := (Array.getElem?_eq_some_iff.1 HB2.out.r0).1
    have q1 : w.heap.size + 1 < w2.heap.size := (Array.getElem?_eq_some_iff.1 HB2.out.r1).1
    have q2 : w.heap.size + 2 < w2.heap.size := (Array.getElem?_eq_some_iff.1 HB2.out.r2).1
    refine Chain.chain (fun p wx => Put (w2) (w.heap.size + 1) (.cells (if p = 0 then #[.int .i64 sd, .int .i64 so, .int .i64 a1, .int .i64 a2, .int .i64 a3, .bool a4, .int .i64 a5, .int .i64 n1, .int .i64 n2, .int .i64 n3, .int .u32 ca, .int .i64 sh, .int .i64 il, .bool fa] else #[.int .i64 ua, .int .i64 ub, .int .i64 u1, .int .i64 u2, .int .i64 u3, .bool u4, .int .i64 u5, .int .i64 v1, .int .i64 v2, .int .i64 v3, .int .u32 (uc : Nat), .int .i64 us, .int .i64 ui, .bool uf]) 38 (0, 0)) wx) (fun _ _ => False) [10] (by kernel_rfl) (by kernel_rfl) (fun _ _ _ _ h => h.elim) ((Put.start HB2.out.r1).drew) ?_
    iterate 5
      (first
          | (apply Chain.walk_quiet (by rfl) (by decide)
             (intro p wx hp hwn hx K hK
              obtain ⟨-, -, -, -, -, -, -, z0_7⟩ := row8 (b := w.heap.size) ((hx.other (w.heap.size) q0 (by omega)).trans HB2.out.r0)
              obtain ⟨k0, k1, k2, k3, k4, k5, k6, k7, k8⟩ := HKC.out wx (HB2.out.below.trans (hx.below (by omega) HB2.out.below.size))
              first
                | (go_simp
                   first
                    | (go_at_call 19; (with_reducible refine (FW.out _).mono ?_); rintro e x1 ⟨rfl, hb⟩; exact hK _ (hx.next hb))
                    | (go_at_K; exact hK _ hx)))
             exact ⟨_, rfl⟩)
          | (refine Chain.walk_no (by rfl) (by decide) ?_; simp only [Act.put, List.setIfInBounds_toArray, List.set_cons_succ, List.set_cons_zero]))
    (first
        | (apply Chain.walk_quiet (by rfl) (by decide)
           (intro p wx hp hwn hx K hK
            obtain rfl : p = 0 := (by rcases Nat.lt_or_ge p 1 with h | h; exact Nat.lt_one_iff.1 h; obtain rfl : p = 1 := Nat.le_antisymm hp h; exact absurd ((Eq.symm (show _ = false by kernel_rfl)).trans hwn) Bool.false_ne_true)
            have hx0 : Put w2 (w.heap.size + 1) (.cells #[.int .i64 sd, .int .i64 so, .int .i64 a1, .int .i64 a2, .int .i64 a3, .bool a4, .int .i64 a5, .int .i64 n1, .int .i64 n2, .int .i64 n3, .int .u32 ca, .int .i64 sh, .int .i64 il, .bool fa] 38 (0, 0)) wx := hx
            have z1_0 : wx.cell? ⟨w.heap.size + 1, 0, none⟩ = some (.int .i64 sd) := cell_of_row _ _ _ _ _ (0, 0) hx0.row
            have z1_1 : wx.cell? ⟨w.heap.size + 1, 1, none⟩ = some (.int .i64 so) := cell_of_row _ _ _ _ _ (0, 0) hx0.row
            have z1_2 : wx.cell? ⟨w.heap.size + 1, 2, none⟩ = some (.int .i64 a1) := cell_of_row _ _ _ _ _ (0, 0) hx0.row
            have z1_3 : wx.cell? ⟨w.heap.size + 1, 3, none⟩ = some (.int .i64 a2) := cell_of_row _ _ _ _ _ (0, 0) hx0.row
            have z1_4 : wx.cell? ⟨w.heap.size + 1, 4, none⟩ = some (.int .i64 a3) := cell_of_row _ _ _ _ _ (0, 0) hx0.row
            have z1_5 : wx.cell? ⟨w.heap.size + 1, 5, none⟩ = some (.bool a4) := cell_of_row _ _ _ _ _ (0, 0) hx0.row
            have z1_6 : wx.cell? ⟨w.heap.size + 1, 6, none⟩ = some (.int .i64 a5) := cell_of_row _ _ _ _ _ (0, 0) hx0.row
            have z1_7 : wx.cell? ⟨w.heap.size + 1, 7, none⟩ = some (.int .i64 n1) := cell_of_row _ _ _ _ _ (0, 0) hx0.row
            have z1_8 : wx.cell? ⟨w.heap.size + 1, 8, none⟩ = some (.int .i64 n2) := cell_of_row _ _ _ _ _ (0, 0) hx0.row
            have z1_9 : wx.cell? ⟨w.heap.size + 1, 9, none⟩ = some (.int .i64 n3) := cell_of_row _ _ _ _ _ (0, 0) hx0.row
            have z1_10 : wx.cell? ⟨w.heap.size + 1, 10, none⟩ = some (.int .u32 ca) := cell_of_row _ _ _ _ _ (0, 0) hx0.row
            have z1_11 : wx.cell? ⟨w.heap.size + 1, 11, none⟩ = some (.int .i64 sh) := cell_of_row _ _ _ _ _ (0, 0) hx0.row
            have z1_12 : wx.cell? ⟨w.heap.size + 1, 12, none⟩ = some (.int .i64 il) := cell_of_row _ _ _ _ _ (0, 0) hx0.row
            have z1_13 : wx.cell? ⟨w.heap.size + 1, 13, none⟩ = some (.bool fa) := cell_of_row _ _ _ _ _ (0, 0) hx0.row
            obtain ⟨-, -, -, -, -, -, -, z0_7⟩ := row8 (b := w.heap.size) ((hx.other (w.heap.size) q0 (by omega)).trans HB2.out.r0)
            obtain ⟨k0, k1, k2, k3, k4, k5, k6, k7, k8⟩ := HKC.out wx (HB2.out.below.trans (hx.below (by omega) HB2.out.below.size))
            first
              | (go_simp
                 first
                  | (go_at_call 19; (with_reducible refine (FW.out _).mono ?_); rintro e x1 ⟨rfl, hb⟩; exact hK _ (hx.next hb))
                  | (go_at_K; exact hK _ hx)))
           exact ⟨_, rfl⟩)
        | (refine Chain.walk_no (by rfl) (by decide) ?_; simp only [Act.put, List.setIfInBounds_toArray, List.set_cons_succ, List.set_cons_zero]))
    iterate 4
      (first
          | (apply Chain.walk_quiet (by rfl) (by decide)
             (intro p wx hp hwn hx K hK
              obtain ⟨-, -, -, -, -, -, -, z0_7⟩ := row8 (b := w.heap.size) ((hx.other (w.heap.size) q0 (by omega)).trans HB2.out.r0)
              obtain ⟨k0, k1, k2, k3, k4, k5, k6, k7, k8⟩ := HKC.out wx (HB2.out.below.trans (hx.below (by omega) HB2.out.below.size))
              first
                | (go_simp
                   first
                    | (go_at_call 19; (with_reducible refine (FW.out _).mono ?_); rintro e x1 ⟨rfl, hb⟩; exact hK _ (hx.next hb))
                    | (go_at_K; exact hK _ hx)))
             exact ⟨_, rfl⟩)
          | (refine Chain.walk_no (by rfl) (by decide) ?_; simp only [Act.put, List.setIfInBounds_toArray, List.set_cons_succ, List.set_cons_zero]))
    apply Chain.walk_turn 0 (by rfl) (by rfl)
    · intro wx hx K hK
      exact Put.store 38 _ _ rfl rfl rfl hx (by kernel_rfl) rfl (by kernel_rfl) (fun w2 h => hK w2 h)
    · exact ⟨undef, rfl⟩
    iterate 1 (
           apply Chain.walk_quiet (by rfl) (by decide)
           (intro p wx hp hwn hx K hK
            go_simp
            (go_at_K; exact hK _ hx))
           exact ⟨_, rfl⟩)
    refine Chain.walk_nil (fun w3 hp3 => ?_)
    replace hp3 : Put (w2) (w.heap.size + 1) (.cells #[.int .i64 ua, .int .i64 ub, .int .i64 u1, .int .i64 u2, .int .i64 u3, .bool u4, .int .i64 u5, .int .i64 v1, .int .i64 v2, .int .i64 v3, .int .u32 (uc : Nat), .int .i64 us, .int .i64 ui, .bool uf] 38 (0, 0)) w3 := hp3
    try simp only [Act.put, List.setIfInBounds_toArray, List.set_cons_succ, List.set_cons_zero]
    have HB3 : Hid (Bx w [(w.heap.size, .cells #[.int .i64 f, .int .i64 d, .int .i64 r, .int .i64 pk, .float .f64 e1, .float .f64 e2, .float .f64 e3, .slice (some ⟨B, off, none⟩) cs.length cap] 27 (0, 0)), (w.heap.size + 1, .cells #[.int .i64 ua, .int .i64 ub, .int .i64 u1, .int .i64 u2, .int .i64 u3, .bool u4, .int .i64 u5, .int .i64 v1, .int .i64 v2, .int .i64 v3, .int .u32 (uc : Nat), .int .i64 us, .int .i64 ui, .bool uf] 38 (0, 0)), (w.heap.size + 2, .cells #[.int .i64 0, .int .i64 0, .int .i64 0, .int .i64 0, .int .i64 0, .bool false, .int .i64 0, .int .i64 0, .int .i64 0, .int .i64 0, .int .u32 0, .int .i64 0, .int .i64 0, .bool false] 38 (0, 0))] w3) := Lib.hid (HB2.out.ofPut (by omega) hp3 (by simp only [List.mem_cons, List.not_mem_nil, or_false]; rintro p (rfl | rfl | rfl) <;> simp <;> omega))
    clear c0_7 hp3 HB2 q0 q1 q2
    obtain ⟨c1_0, c1_1, c1_2, c1_3, c1_4, c1_5, c1_6, c1_7, c1_8, c1_9, c1_10, c1_11, c1_12, c1_13⟩ := row14 (b := w.heap.size + 1) HB3.out.r1
    go_wp2_with (with_reducible show wpList _ _ _ (Oper.mk _ (.store 38 _ _) _ _ _ _ :: _) _ _; refine Hid.out ?_)
    refine Lib.hid ?_
    refine wpList_put rfl 38 _ _ rfl (w.heap.size + 2) #[.int .i64 ua, .int .i64 ub, .int .i64 u1, .int .i64 u2, .int .i64 u3, .bool u4, .int .i64 u5, .int .i64 v1, .int .i64 v2, .int .i64 v3, .int .u32 (uc : Nat), .int .i64 us, .int .i64 ui, .bool uf] _ 38 rfl rfl HB3.out.r2 (by kernel_rfl) rfl (by kernel_rfl) ?_
    intro w4 hr4 hg4
    have HB4 : Hid (Bx w [(w.heap.size, .cells #[.int .i64 f, .int .i64 d, .int .i64 r, .int .i64 pk, .float .f64 e1, .float .f64 e2, .float .f64 e3, .slice (some ⟨B, off, none⟩) cs.length cap] 27 (0, 0)), (w.heap.size + 1, .cells #[.int .i64 ua, .int .i64 ub, .int .i64 u1, .int .i64 u2, .int .i64 u3, .bool u4, .int .i64 u5, .int .i64 v1, .int .i64 v2, .int .i64 v3, .int .u32 (uc : Nat), .int .i64 us, .int .i64 ui, .bool uf] 38 (0, 0)), (w.heap.size + 2, .cells #[.int .i64 ua, .int .i64 ub, .int .i64 u1, .int .i64 u2, .int .i64 u3, .bool u4, .int .i64 u5, .int .i64 v1, .int .i64 v2, .int .i64 v3, .int .u32 (uc : Nat), .int .i64 us, .int .i64 ui, .bool uf] 38 (0, 0))] w4) := Lib.hid (HB3.out.put (by omega) hg4.out hr4.out (by simp only [List.mem_cons, List.not_mem_nil, or_false]; rintro p (rfl | rfl | rfl) <;> simp <;> omega))
    clear c1_0 c1_1 c1_2 c1_3 c1_4 c1_5 c1_6 c1_7 c1_8 c1_9 c1_10 c1_11 c1_12 c1_13 hr4 hg4 HB3
    go_wp2_with fail
    exact bodyPost_ret (results_row_tmp2 Tryd.results8 _ _ _ _ _ (0, 0) _ rfl HB4.out.r2 Tryd.underlying38 rfl (by kernel_rfl)) rfl (⟨rfl, HB4.out.below⟩)
set_option maxHeartbeats 8000000 in
theorem ncShows_any (b : BldD) (A : Option Addr) (cap : Nat) (s : Nc) (x : Fb) (w : World) (hw : NcW b A w) (hn : b.cars.length ≤ 140737488355328) (hca : s.ca < 4294967296) :
    Calls Tryd.prog 12 #[b.agg A cap, s.agg, x.agg] w fun ee w' => ee = .returned (Cl (Nc.shows b s x)) ∧ Below w.heap.size w w' := by
  have FI := Lib.hid (fun wx (hb : Below w.heap.size w wx) => ncIsState_any b A cap s wx (hw.below hb) hn hca)
  have FS := Lib.hid (fun wx => shows_any b.floors ⟨x.fl, s.sh, x.dd⟩ wx)
  unfold Nc.shows
  generalize Ind.shows b.floors ⟨x.fl, s.sh, x.dd⟩ = r2 at *
  generalize Nc.isB b s = q at *
  clear hw hn hca
  obtain ⟨f, d, r, pk, e1, e2, e3, cs⟩ := b
  obtain ⟨fl, lv, dd, bl⟩ := x
  obtain ⟨sd, so, ⟨d1, d2, d3, d4, d5⟩, ⟨m1, m2, m3⟩, ca, sh, il, fa⟩ := s
  obtain ⟨r0, r1⟩ := r2
  cases q
  · rw [if_neg (fun e => by cases e.1)]
    rw [show Cl (0, 0) = .agg #[.int .u32 0, .int .u32 0] from rfl]
    simp only [BldD.agg, Fb.agg, Nc.agg, Ob.agg, Cl] at *
    have HB0 := Lib.hid (bxs4 w (.cells #[.int .i64 f, .int .i64 d, .int .i64 r, .int .i64 pk, .float .f64 e1, .float .f64 e2, .float .f64 e3, .slice A cs.length cap] 27) (.cells #[.int .i64 sd, .int .i64 so, .int .i64 d1, .int .i64 d2, .int .i64 d3, .bool d4, .int .i64 d5, .int .i64 m1, .int .i64 m2, .int .i64 m3, .int .u32 ca, .int .i64 sh, .int .i64 il, .bool fa] 38) (.cells #[.int .i64 fl, .bool lv, .int .i64 dd, .bool bl] 40) (.cells #[.int .u32 0, .int .u32 0] 42))
    go_enter Tryd.func12, Tryd.ntmps12
    go_wp2_with fail
    refine (FI.out _ HB0.out.below).mono ?_
    rintro e w1 ⟨rfl, hb1⟩
    have HB1 := Lib.hid (HB0.out.next hb1)
    clear hb1 HB0
    obtain ⟨c0_0, c0_1, c0_2, c0_3, c0_4, c0_5, c0_6, c0_7⟩ := row8 (b := w.heap.size) HB1.out.r0
    obtain ⟨c1_0, c1_1, c1_2, c1_3, c1_4, c1_5, c1_6, c1_7, c1_8, c1_9, c1_10, c1_11, c1_12, c1_13⟩ := row14 (b := w.heap.size + 1) HB1.out.r1
    obtain ⟨c2_0, c2_1, c2_2, c2_3⟩ := row4 (b := w.heap.size + 2) HB1.out.r2
    go_wp2_with (with_reducible show wpList _ _ _ (Oper.mk _ (.store 42 _ _) _ _ _ _ :: _) _ _; refine Hid.out ?_)
    refine Lib.hid ?_
    refine wpList_put rfl 42 _ _ rfl (w.heap.size + 3) #[.int .u32 0, .int .u32 0] _ 42 rfl rfl HB1.out.r3 (by kernel_rfl) rfl (by kernel_rfl) ?_
    intro w2 hr2 hg2
    have HB2 : Hid (Bx w [(w.heap.size, .cells #[.int .i64 f, .int .i64 d, .int .i64 r, .int .i64 pk, .float .f64 e1, .float .f64 e2, .float .f64 e3, .slice A cs.length cap] 27 (0, 0)), (w.heap.size + 1, .cells #[.int .i64 sd, .int .i64 so, .int .i64 d1, .int .i64 d2, .int .i64 d3, .bool d4, .int .i64 d5, .int .i64 m1, .int .i64 m2, .int .i64 m3, .int .u32 ca, .int .i64 sh, .int .i64 il, .bool fa] 38 (0, 0)), (w.heap.size + 2, .cells #[.int .i64 fl, .bool lv, .int .i64 dd, .bool bl] 40 (0, 0)), (w.heap.size + 3, .cells #[.int .u32 0, .int .u32 0] 42 (0, 0))] w2) := Lib.hid (HB1.out.put (by omega) hg2.out hr2.out (by simp only [List.mem_cons, List.not_mem_nil, or_false]; rintro p (rfl | rfl | rfl | rfl) <;> simp <;> omega))
    clear c0_0 c0_1 c0_2 c0_3 c0_4 c0_5 c0_6 c0_7 c1_0 c1_1 c1_2 c1_3 c1_4 c1_5 c1_6 c1_7 c1_8 c1_9 c1_10 c1_11 c1_12 c1_13 c2_0 c2_1 c2_2 c2_3 hr2 hg2 HB1
    go_wp2_with fail
    exact bodyPost_ret (results_cell_row Tryd.results12 _ _ _ _ _ (0, 0) _ rfl (HB2.out.r3) Tryd.underlying42 rfl (by kernel_rfl)) rfl (⟨rfl, HB2.out.below⟩)
  · by_cases h2 : d1 = 2
    · subst h2
      cases lv
      · rw [if_neg (fun e => by cases e.2.2)]
        rw [show Cl (0, 0) = .agg #[.int .u32 0, .int .u32 0] from rfl]
        simp only [BldD.agg, Fb.agg, Nc.agg, Ob.agg, Cl] at *
        have HB0 := Lib.hid (bxs4 w (.cells #[.int .i64 f, .int .i64 d, .int .i64 r, .int .i64 pk, .float .f64 e1, .float .f64 e2, .float .f64 e3, .slice A cs.length cap] 27) (.cells #[.int .i64 sd, .int .i64 so, .int .i64 2, .int .i64 d2, .int .i64 d3, .bool d4, .int .i64 d5, .int .i64 m1, .int .i64 m2, .int .i64 m3, .int .u32 ca, .int .i64 sh, .int .i64 il, .bool fa] 38) (.cells #[.int .i64 fl, .bool false, .int .i64 dd, .bool bl] 40) (.cells #[.int .u32 0, .int .u32 0] 42))
        go_enter Tryd.func12, Tryd.ntmps12
        go_wp2_with fail
        refine (FI.out _ HB0.out.below).mono ?_
        rintro e w1 ⟨rfl, hb1⟩
        have HB1 := Lib.hid (HB0.out.next hb1)
        clear hb1 HB0
        obtain ⟨c0_0, c0_1, c0_2, c0_3, c0_4, c0_5, c0_6, c0_7⟩ := row8 (b := w.heap.size) HB1.out.r0
        obtain ⟨c1_0, c1_1, c1_2, c1_3, c1_4, c1_5, c1_6, c1_7, c1_8, c1_9, c1_10, c1_11, c1_12, c1_13⟩ := row14 (b := w.heap.size + 1) HB1.out.r1
        obtain ⟨c2_0, c2_1, c2_2, c2_3⟩ := row4 (b := w.heap.size + 2) HB1.out.r2
        go_wp2_with (with_reducible show wpList _ _ _ (Oper.mk _ (.store 42 _ _) _ _ _ _ :: _) _ _; refine Hid.out ?_)
        refine Lib.hid ?_
        refine wpList_put rfl 42 _ _ rfl (w.heap.size + 3) #[.int .u32 0, .int .u32 0] _ 42 rfl rfl HB1.out.r3 (by kernel_rfl) rfl (by kernel_rfl) ?_
        intro w2 hr2 hg2
        have HB2 : Hid (Bx w [(w.heap.size, .cells #[.int .i64 f, .int .i64 d, .int .i64 r, .int .i64 pk, .float .f64 e1, .float .f64 e2, .float .f64 e3, .slice A cs.length cap] 27 (0, 0)), (w.heap.size + 1, .cells #[.int .i64 sd, .int .i64 so, .int .i64 2, .int .i64 d2, .int .i64 d3, .bool d4, .int .i64 d5, .int .i64 m1, .int .i64 m2, .int .i64 m3, .int .u32 ca, .int .i64 sh, .int .i64 il, .bool fa] 38 (0, 0)), (w.heap.size + 2, .cells #[.int .i64 fl, .bool false, .int .i64 dd, .bool bl] 40 (0, 0)), (w.heap.size + 3, .cells #[.int .u32 0, .int .u32 0] 42 (0, 0))] w2) := Lib.hid (HB1.out.put (by omega) hg2.out hr2.out (by simp only [List.mem_cons, List.not_mem_nil, or_false]; rintro p (rfl | rfl | rfl | rfl) <;> simp <;> omega))
        clear c0_0 c0_1 c0_2 c0_3 c0_4 c0_5 c0_6 c0_7 c1_0 c1_1 c1_2 c1_3 c1_4 c1_5 c1_6 c1_7 c1_8 c1_9 c1_10 c1_11 c1_12 c1_13 c2_0 c2_1 c2_2 c2_3 hr2 hg2 HB1
        go_wp2_with fail
        exact bodyPost_ret (results_cell_row Tryd.results12 _ _ _ _ _ (0, 0) _ rfl (HB2.out.r3) Tryd.underlying42 rfl (by kernel_rfl)) rfl (⟨rfl, HB2.out.below⟩)
      · rw [if_pos ⟨rfl, rfl, rfl⟩]
        simp only [BldD.agg, Fb.agg, Nc.agg, Ob.agg, Cl] at *
        have HB0 := Lib.hid (bxs4 w (.cells #[.int .i64 f, .int .i64 d, .int .i64 r, .int .i64 pk, .float .f64 e1, .float .f64 e2, .float .f64 e3, .slice A cs.length cap] 27) (.cells #[.int .i64 sd, .int .i64 so, .int .i64 2, .int .i64 d2, .int .i64 d3, .bool d4, .int .i64 d5, .int .i64 m1, .int .i64 m2, .int .i64 m3, .int .u32 ca, .int .i64 sh, .int .i64 il, .bool fa] 38) (.cells #[.int .i64 fl, .bool true, .int .i64 dd, .bool bl] 40) (.cells #[.int .u32 0, .int .u32 0] 42))
        go_enter Tryd.func12, Tryd.ntmps12
        go_wp2_with fail
        refine (FI.out _ HB0.out.below).mono ?_
        rintro e w1 ⟨rfl, hb1⟩
        have HB1 := Lib.hid (HB0.out.next hb1)
        clear hb1 HB0
        obtain ⟨c0_0, c0_1, c0_2, c0_3, c0_4, c0_5, c0_6, c0_7⟩ := row8 (b := w.heap.size) HB1.out.r0
        obtain ⟨c1_0, c1_1, c1_2, c1_3, c1_4, c1_5, c1_6, c1_7, c1_8, c1_9, c1_10, c1_11, c1_12, c1_13⟩ := row14 (b := w.heap.size + 1) HB1.out.r1
        obtain ⟨c2_0, c2_1, c2_2, c2_3⟩ := row4 (b := w.heap.size + 2) HB1.out.r2
        go_wp2_with fail
        refine (FS.out _).mono ?_
        rintro e w2 ⟨rfl, hb2⟩
        have HB2 := Lib.hid (HB1.out.next hb2)
        clear c0_0 c0_1 c0_2 c0_3 c0_4 c0_5 c0_6 c0_7 c1_0 c1_1 c1_2 c1_3 c1_4 c1_5 c1_6 c1_7 c1_8 c1_9 c1_10 c1_11 c1_12 c1_13 c2_0 c2_1 c2_2 c2_3 hb2 HB1
        go_wp2_with (with_reducible show wpList _ _ _ (Oper.mk _ (.store 42 _ _) _ _ _ _ :: _) _ _; refine Hid.out ?_)
        refine Lib.hid ?_
        refine wpList_put rfl 42 _ _ rfl (w.heap.size + 3) #[.int .u32 (r0 : Nat), .int .u32 (r1 : Nat)] _ 42 rfl rfl HB2.out.r3 (by kernel_rfl) rfl (by kernel_rfl) ?_
        intro w3 hr3 hg3
        have HB3 : Hid (Bx w [(w.heap.size, .cells #[.int .i64 f, .int .i64 d, .int .i64 r, .int .i64 pk, .float .f64 e1, .float .f64 e2, .float .f64 e3, .slice A cs.length cap] 27 (0, 0)), (w.heap.size + 1, .cells #[.int .i64 sd, .int .i64 so, .int .i64 2, .int .i64 d2, .int .i64 d3, .bool d4, .int .i64 d5, .int .i64 m1, .int .i64 m2, .int .i64 m3, .int .u32 ca, .int .i64 sh, .int .i64 il, .bool fa] 38 (0, 0)), (w.heap.size + 2, .cells #[.int .i64 fl, .bool true, .int .i64 dd, .bool bl] 40 (0, 0)), (w.heap.size + 3, .cells #[.int .u32 (r0 : Nat), .int .u32 (r1 : Nat)] 42 (0, 0))] w3) := Lib.hid (HB2.out.put (by omega) hg3.out hr3.out (by simp only [List.mem_cons, List.not_mem_nil, or_false]; rintro p (rfl | rfl | rfl | rfl) <;> simp <;> omega))
        clear hr3 hg3 HB2
        go_wp2_with fail
        exact bodyPost_ret (results_cell_row Tryd.results12 _ _ _ _ _ (0, 0) _ rfl (HB3.out.r3) Tryd.underlying42 rfl (by kernel_rfl)) rfl (⟨rfl, HB3.out.below⟩)
    · rw [if_neg (fun e => h2 e.2.1)]
      rw [show Cl (0, 0) = .agg #[.int .u32 0, .int .u32 0] from rfl]
      have hB2 : (d1 != 2) = true := by simpa using h2
      simp only [BldD.agg, Fb.agg, Nc.agg, Ob.agg, Cl] at *
      have HB0 := Lib.hid (bxs4 w (.cells #[.int .i64 f, .int .i64 d, .int .i64 r, .int .i64 pk, .float .f64 e1, .float .f64 e2, .float .f64 e3, .slice A cs.length cap] 27) (.cells #[.int .i64 sd, .int .i64 so, .int .i64 d1, .int .i64 d2, .int .i64 d3, .bool d4, .int .i64 d5, .int .i64 m1, .int .i64 m2, .int .i64 m3, .int .u32 ca, .int .i64 sh, .int .i64 il, .bool fa] 38) (.cells #[.int .i64 fl, .bool lv, .int .i64 dd, .bool bl] 40) (.cells #[.int .u32 0, .int .u32 0] 42))
      go_enter Tryd.func12, Tryd.ntmps12
      go_wp2_with fail
      refine (FI.out _ HB0.out.below).mono ?_
      rintro e w1 ⟨rfl, hb1⟩
      have HB1 := Lib.hid (HB0.out.next hb1)
      clear hb1 HB0
      obtain ⟨c0_0, c0_1, c0_2, c0_3, c0_4, c0_5, c0_6, c0_7⟩ := row8 (b := w.heap.size) HB1.out.r0
      obtain ⟨c1_0, c1_1, c1_2, c1_3, c1_4, c1_5, c1_6, c1_7, c1_8, c1_9, c1_10, c1_11, c1_12, c1_13⟩ := row14 (b := w.heap.size + 1) HB1.out.r1
      obtain ⟨c2_0, c2_1, c2_2, c2_3⟩ := row4 (b := w.heap.size + 2) HB1.out.r2
      go_wp2_with (with_reducible show wpList _ _ _ (Oper.mk _ (.store 42 _ _) _ _ _ _ :: _) _ _; refine Hid.out ?_)
      refine Lib.hid ?_
      refine wpList_put rfl 42 _ _ rfl (w.heap.size + 3) #[.int .u32 0, .int .u32 0] _ 42 rfl rfl HB1.out.r3 (by kernel_rfl) rfl (by kernel_rfl) ?_
      intro w2 hr2 hg2
      have HB2 : Hid (Bx w [(w.heap.size, .cells #[.int .i64 f, .int .i64 d, .int .i64 r, .int .i64 pk, .float .f64 e1, .float .f64 e2, .float .f64 e3, .slice A cs.length cap] 27 (0, 0)), (w.heap.size + 1, .cells #[.int .i64 sd, .int .i64 so, .int .i64 d1, .int .i64 d2, .int .i64 d3, .bool d4, .int .i64 d5, .int .i64 m1, .int .i64 m2, .int .i64 m3, .int .u32 ca, .int .i64 sh, .int .i64 il, .bool fa] 38 (0, 0)), (w.heap.size + 2, .cells #[.int .i64 fl, .bool lv, .int .i64 dd, .bool bl] 40 (0, 0)), (w.heap.size + 3, .cells #[.int .u32 0, .int .u32 0] 42 (0, 0))] w2) := Lib.hid (HB1.out.put (by omega) hg2.out hr2.out (by simp only [List.mem_cons, List.not_mem_nil, or_false]; rintro p (rfl | rfl | rfl | rfl) <;> simp <;> omega))
      clear c0_0 c0_1 c0_2 c0_3 c0_4 c0_5 c0_6 c0_7 c1_0 c1_1 c1_2 c1_3 c1_4 c1_5 c1_6 c1_7 c1_8 c1_9 c1_10 c1_11 c1_12 c1_13 c2_0 c2_1 c2_2 c2_3 hr2 hg2 HB1
      go_wp2_with fail
      exact bodyPost_ret (results_cell_row Tryd.results12 _ _ _ _ _ (0, 0) _ rfl (HB2.out.r3) Tryd.underlying42 rfl (by kernel_rfl)) rfl (⟨rfl, HB2.out.below⟩)
end Go.Proofs.YtnjcegkefjdgdaaDoor
