/- The reference's Step of doors. No statement of the seat is proved here. -/
import Derived.Test.YthniolaeicmjlaaDrRefStepA
import Derived.Test.YthniolaeicmjlaaGhostL
namespace Go.Proofs.Ythniolaeicmjlaa
open Go.RowKit

set_option maxHeartbeats 2000000 in
theorem rstep_c6 (t0 t1 t2 t3 t4 t5 t6 t7 t8 : Int) (b c n : Int) (d : Bool) (e : Int) (k : Int) (bl : Bool) (wt : Bool) (w : World) (hB : Dr.isB ⟨2, b, c, d, e⟩ = true) (hn : Dr.next c = n) (hl : ¬ t7 < n) (hk : ¬ (t6 ≤ b + 1 ∧ bl = false)) :
    Calls Try.prog 8 #[.agg #[.int .i64 t0, .int .i64 t1, .int .i64 t2, .int .i64 t3, .int .i64 t4, .int .i64 t5, .int .i64 t6, .int .i64 t7, .int .i64 t8], .agg #[.int .i64 2, .int .i64 b, .int .i64 c, .bool d, .int .i64 e], .int .i64 k, .bool bl, .bool wt] w fun ee w' => ee = .returned (.tuple #[.agg #[.int .i64 2, .int .i64 (Dr.more b), .int .i64 n, .bool d, .int .i64 e], .int .i64 0]) ∧ Below w.heap.size w w' := by
  have hst := hB
  obtain ⟨-, hb, hc, he⟩ := (Dr.isB_iff (by simp)).1 hst
  simp only at hb hc he
  have F := Lib.hid (fun wx => refIsState_any 2 b c d e wx)
  rw [hB] at F
  by_cases hc0 : 0 < c
  · rw [show Dr.next c = Dr.more c from if_neg (by omega)] at hn
    have FN := Lib.hid (fun wx => refMore_any c wx hc)
    rw [hn] at FN
    have FM := Lib.hid (fun wx => refMore_any b wx hb)
    generalize Dr.more b = m at *
    clear hst hB hn hc he
    by_cases h1 : t6 ≤ b + 1
    · obtain rfl : bl = true := by cases bl; exact absurd ⟨h1, rfl⟩ hk; rfl
      clear hk
      have HB0 := Lib.hid (bxs3 w (.cells #[.int .i64 t0, .int .i64 t1, .int .i64 t2, .int .i64 t3, .int .i64 t4, .int .i64 t5, .int .i64 t6, .int .i64 t7, .int .i64 t8] 23) (.cells #[.int .i64 2, .int .i64 b, .int .i64 c, .bool d, .int .i64 e] 25) (.cells #[.int .i64 0, .int .i64 0, .int .i64 0, .bool false, .int .i64 0] 25))
      go_enter Try.func8, Try.ntmps8
      go_wp2_with fail
      refine (F.out _).mono ?_
      rintro e w1 ⟨rfl, hb1⟩
      have HB1 := Lib.hid (HB0.out.next hb1)
      clear hb1 HB0
      have c0_6 : w1.cell? ⟨w.heap.size, 6, none⟩ = some (.int .i64 t6) := cell_of_row _ _ _ _ _ (0, 0) HB1.out.r0
      have c0_7 : w1.cell? ⟨w.heap.size, 7, none⟩ = some (.int .i64 t7) := cell_of_row _ _ _ _ _ (0, 0) HB1.out.r0
      have c1_0 : w1.cell? ⟨w.heap.size + 1, 0, none⟩ = some (.int .i64 2) := cell_of_row _ _ _ _ _ (0, 0) HB1.out.r1
      have c1_1 : w1.cell? ⟨w.heap.size + 1, 1, none⟩ = some (.int .i64 b) := cell_of_row _ _ _ _ _ (0, 0) HB1.out.r1
      have c1_2 : w1.cell? ⟨w.heap.size + 1, 2, none⟩ = some (.int .i64 c) := cell_of_row _ _ _ _ _ (0, 0) HB1.out.r1
      have c1_3 : w1.cell? ⟨w.heap.size + 1, 3, none⟩ = some (.bool d) := cell_of_row _ _ _ _ _ (0, 0) HB1.out.r1
      have c1_4 : w1.cell? ⟨w.heap.size + 1, 4, none⟩ = some (.int .i64 e) := cell_of_row _ _ _ _ _ (0, 0) HB1.out.r1
      go_wp2_with fail
      refine (FN.out _).mono ?_
      rintro e w2 ⟨rfl, hb2⟩
      have HB2 := Lib.hid (HB1.out.next hb2)
      clear c0_6 c0_7 c1_0 c1_1 c1_2 c1_3 c1_4 hb2 HB1
      have c0_6 : w2.cell? ⟨w.heap.size, 6, none⟩ = some (.int .i64 t6) := cell_of_row _ _ _ _ _ (0, 0) HB2.out.r0
      have c0_7 : w2.cell? ⟨w.heap.size, 7, none⟩ = some (.int .i64 t7) := cell_of_row _ _ _ _ _ (0, 0) HB2.out.r0
      have c1_0 : w2.cell? ⟨w.heap.size + 1, 0, none⟩ = some (.int .i64 2) := cell_of_row _ _ _ _ _ (0, 0) HB2.out.r1
      have c1_1 : w2.cell? ⟨w.heap.size + 1, 1, none⟩ = some (.int .i64 b) := cell_of_row _ _ _ _ _ (0, 0) HB2.out.r1
      have c1_2 : w2.cell? ⟨w.heap.size + 1, 2, none⟩ = some (.int .i64 c) := cell_of_row _ _ _ _ _ (0, 0) HB2.out.r1
      have c1_3 : w2.cell? ⟨w.heap.size + 1, 3, none⟩ = some (.bool d) := cell_of_row _ _ _ _ _ (0, 0) HB2.out.r1
      have c1_4 : w2.cell? ⟨w.heap.size + 1, 4, none⟩ = some (.int .i64 e) := cell_of_row _ _ _ _ _ (0, 0) HB2.out.r1
      go_wp2_with (with_reducible show wpList _ _ _ (Oper.mk _ (.store 3 _ _) _ _ _ _ :: _) _ _; refine Hid.out ?_)
      refine Lib.hid ?_
      refine wpList_putCell rfl 3 _ _ rfl (w.heap.size + 1) 2 (.int .i64 n) _ _ 25 rfl rfl HB2.out.r1 (by kernel_rfl) (by simp) rfl rfl rfl ?_
      intro w3 hr3 hg3
      have HB3 : Hid (Bx w [(w.heap.size, .cells #[.int .i64 t0, .int .i64 t1, .int .i64 t2, .int .i64 t3, .int .i64 t4, .int .i64 t5, .int .i64 t6, .int .i64 t7, .int .i64 t8] 23 (0, 0)), (w.heap.size + 1, .cells #[.int .i64 2, .int .i64 b, .int .i64 n, .bool d, .int .i64 e] 25 (0, 0)), (w.heap.size + 2, .cells #[.int .i64 0, .int .i64 0, .int .i64 0, .bool false, .int .i64 0] 25 (0, 0))] w3) := Lib.hid (HB2.out.put (by omega) hg3.out hr3.out (by simp only [List.mem_cons, List.not_mem_nil, or_false]; rintro p (rfl | rfl | rfl) <;> simp <;> omega))
      clear c0_6 c0_7 c1_0 c1_1 c1_2 c1_3 c1_4 hr3 hg3 HB2
      have c0_6 : w3.cell? ⟨w.heap.size, 6, none⟩ = some (.int .i64 t6) := cell_of_row _ _ _ _ _ (0, 0) HB3.out.r0
      have c0_7 : w3.cell? ⟨w.heap.size, 7, none⟩ = some (.int .i64 t7) := cell_of_row _ _ _ _ _ (0, 0) HB3.out.r0
      have c1_0 : w3.cell? ⟨w.heap.size + 1, 0, none⟩ = some (.int .i64 2) := cell_of_row _ _ _ _ _ (0, 0) HB3.out.r1
      have c1_1 : w3.cell? ⟨w.heap.size + 1, 1, none⟩ = some (.int .i64 b) := cell_of_row _ _ _ _ _ (0, 0) HB3.out.r1
      have c1_2 : w3.cell? ⟨w.heap.size + 1, 2, none⟩ = some (.int .i64 n) := cell_of_row _ _ _ _ _ (0, 0) HB3.out.r1
      have c1_3 : w3.cell? ⟨w.heap.size + 1, 3, none⟩ = some (.bool d) := cell_of_row _ _ _ _ _ (0, 0) HB3.out.r1
      have c1_4 : w3.cell? ⟨w.heap.size + 1, 4, none⟩ = some (.int .i64 e) := cell_of_row _ _ _ _ _ (0, 0) HB3.out.r1
      go_wp2_with fail
      refine (FM.out _).mono ?_
      rintro e w4 ⟨rfl, hb4⟩
      have HB4 := Lib.hid (HB3.out.next hb4)
      clear c0_6 c0_7 c1_0 c1_1 c1_2 c1_3 c1_4 hb4 HB3
      have c0_6 : w4.cell? ⟨w.heap.size, 6, none⟩ = some (.int .i64 t6) := cell_of_row _ _ _ _ _ (0, 0) HB4.out.r0
      have c0_7 : w4.cell? ⟨w.heap.size, 7, none⟩ = some (.int .i64 t7) := cell_of_row _ _ _ _ _ (0, 0) HB4.out.r0
      have c1_0 : w4.cell? ⟨w.heap.size + 1, 0, none⟩ = some (.int .i64 2) := cell_of_row _ _ _ _ _ (0, 0) HB4.out.r1
      have c1_1 : w4.cell? ⟨w.heap.size + 1, 1, none⟩ = some (.int .i64 b) := cell_of_row _ _ _ _ _ (0, 0) HB4.out.r1
      have c1_2 : w4.cell? ⟨w.heap.size + 1, 2, none⟩ = some (.int .i64 n) := cell_of_row _ _ _ _ _ (0, 0) HB4.out.r1
      have c1_3 : w4.cell? ⟨w.heap.size + 1, 3, none⟩ = some (.bool d) := cell_of_row _ _ _ _ _ (0, 0) HB4.out.r1
      have c1_4 : w4.cell? ⟨w.heap.size + 1, 4, none⟩ = some (.int .i64 e) := cell_of_row _ _ _ _ _ (0, 0) HB4.out.r1
      go_wp2_with (with_reducible show wpList _ _ _ (Oper.mk _ (.store 3 _ _) _ _ _ _ :: _) _ _; refine Hid.out ?_)
      refine Lib.hid ?_
      refine wpList_putCell rfl 3 _ _ rfl (w.heap.size + 1) 1 (.int .i64 m) _ _ 25 rfl rfl HB4.out.r1 (by kernel_rfl) (by simp) rfl rfl rfl ?_
      intro w5 hr5 hg5
      have HB5 : Hid (Bx w [(w.heap.size, .cells #[.int .i64 t0, .int .i64 t1, .int .i64 t2, .int .i64 t3, .int .i64 t4, .int .i64 t5, .int .i64 t6, .int .i64 t7, .int .i64 t8] 23 (0, 0)), (w.heap.size + 1, .cells #[.int .i64 2, .int .i64 m, .int .i64 n, .bool d, .int .i64 e] 25 (0, 0)), (w.heap.size + 2, .cells #[.int .i64 0, .int .i64 0, .int .i64 0, .bool false, .int .i64 0] 25 (0, 0))] w5) := Lib.hid (HB4.out.put (by omega) hg5.out hr5.out (by simp only [List.mem_cons, List.not_mem_nil, or_false]; rintro p (rfl | rfl | rfl) <;> simp <;> omega))
      clear c0_6 c0_7 c1_0 c1_1 c1_2 c1_3 c1_4 hr5 hg5 HB4
      have c0_6 : w5.cell? ⟨w.heap.size, 6, none⟩ = some (.int .i64 t6) := cell_of_row _ _ _ _ _ (0, 0) HB5.out.r0
      have c0_7 : w5.cell? ⟨w.heap.size, 7, none⟩ = some (.int .i64 t7) := cell_of_row _ _ _ _ _ (0, 0) HB5.out.r0
      have c1_0 : w5.cell? ⟨w.heap.size + 1, 0, none⟩ = some (.int .i64 2) := cell_of_row _ _ _ _ _ (0, 0) HB5.out.r1
      have c1_1 : w5.cell? ⟨w.heap.size + 1, 1, none⟩ = some (.int .i64 m) := cell_of_row _ _ _ _ _ (0, 0) HB5.out.r1
      have c1_2 : w5.cell? ⟨w.heap.size + 1, 2, none⟩ = some (.int .i64 n) := cell_of_row _ _ _ _ _ (0, 0) HB5.out.r1
      have c1_3 : w5.cell? ⟨w.heap.size + 1, 3, none⟩ = some (.bool d) := cell_of_row _ _ _ _ _ (0, 0) HB5.out.r1
      have c1_4 : w5.cell? ⟨w.heap.size + 1, 4, none⟩ = some (.int .i64 e) := cell_of_row _ _ _ _ _ (0, 0) HB5.out.r1
      go_wp2_with fail
      refine GhostV.ghost (fun γ L wx => GL (w5) (w.heap.size + 2) #[.int .i64 0, .int .i64 0, .int .i64 0, .bool false, .int .i64 0] #[.int .i64 2, .int .i64 m, .int .i64 n, .bool d, .int .i64 e] 25 #[.int .i64 0, .int .i64 3, .int .i64 0, .int .i64 4] 3 2 1 4 6 γ L wx) (by kernel_rfl) (by kernel_rfl) (fun γ => GL.start γ (HB5.out.r2)) ?_
      apply GhostV.walk_const (fun γ => by rfl)
      · intro γ L wx h1 h2 hx K hK
        have hrow := (hx.put.other (w.heap.size + 1) (Array.getElem?_eq_some_iff.1 HB5.out.r1).1 (by omega)).trans HB5.out.r1
        have z0 : wx.cell? ⟨w.heap.size + 1, 0, none⟩ = some (.int .i64 2) := cell_of_row _ _ _ _ _ (0, 0) hrow
        have z1 : wx.cell? ⟨w.heap.size + 1, 1, none⟩ = some (.int .i64 m) := cell_of_row _ _ _ _ _ (0, 0) hrow
        have z2 : wx.cell? ⟨w.heap.size + 1, 2, none⟩ = some (.int .i64 n) := cell_of_row _ _ _ _ _ (0, 0) hrow
        have z3 : wx.cell? ⟨w.heap.size + 1, 3, none⟩ = some (.bool d) := cell_of_row _ _ _ _ _ (0, 0) hrow
        have z4 : wx.cell? ⟨w.heap.size + 1, 4, none⟩ = some (.int .i64 e) := cell_of_row _ _ _ _ _ (0, 0) hrow
        have HH := Lib.hid hx
        have HK2 := Lib.hid hK
        clear hK h1 h2 hx
        go_simp
        first
          | exact HK2.out _ (HH.out.next _ (by decide) (by decide) (by decide) (Below.refl _ _))
      try simp only [Act.put, List.setIfInBounds_toArray, List.set_cons_succ, List.set_cons_zero]
      refine GhostV.walk_yes (fun b => b) (fun γ => by rfl) ?_ ?_
      · intro γ L wx h1 h2 hx K hK
        have hrow := (hx.put.other (w.heap.size + 1) (Array.getElem?_eq_some_iff.1 HB5.out.r1).1 (by omega)).trans HB5.out.r1
        have z0 : wx.cell? ⟨w.heap.size + 1, 0, none⟩ = some (.int .i64 2) := cell_of_row _ _ _ _ _ (0, 0) hrow
        have z1 : wx.cell? ⟨w.heap.size + 1, 1, none⟩ = some (.int .i64 m) := cell_of_row _ _ _ _ _ (0, 0) hrow
        have z2 : wx.cell? ⟨w.heap.size + 1, 2, none⟩ = some (.int .i64 n) := cell_of_row _ _ _ _ _ (0, 0) hrow
        have z3 : wx.cell? ⟨w.heap.size + 1, 3, none⟩ = some (.bool d) := cell_of_row _ _ _ _ _ (0, 0) hrow
        have z4 : wx.cell? ⟨w.heap.size + 1, 4, none⟩ = some (.int .i64 e) := cell_of_row _ _ _ _ _ (0, 0) hrow
        have HH := Lib.hid (hx.make h1 (by decide) (by decide))
        have HK2 := Lib.hid hK
        clear hK h1 h2 hx
        go_simp
        exact HK2.out _ _ HH.out
      try simp only [Act.put, List.setIfInBounds_toArray, List.set_cons_succ, List.set_cons_zero]
      apply GhostV.walk_const (fun γ => by rfl)
      · intro γ L wx h1 h2 hx K hK
        have hrow := (hx.put.other (w.heap.size + 1) (Array.getElem?_eq_some_iff.1 HB5.out.r1).1 (by omega)).trans HB5.out.r1
        have z0 : wx.cell? ⟨w.heap.size + 1, 0, none⟩ = some (.int .i64 2) := cell_of_row _ _ _ _ _ (0, 0) hrow
        have z1 : wx.cell? ⟨w.heap.size + 1, 1, none⟩ = some (.int .i64 m) := cell_of_row _ _ _ _ _ (0, 0) hrow
        have z2 : wx.cell? ⟨w.heap.size + 1, 2, none⟩ = some (.int .i64 n) := cell_of_row _ _ _ _ _ (0, 0) hrow
        have z3 : wx.cell? ⟨w.heap.size + 1, 3, none⟩ = some (.bool d) := cell_of_row _ _ _ _ _ (0, 0) hrow
        have z4 : wx.cell? ⟨w.heap.size + 1, 4, none⟩ = some (.int .i64 e) := cell_of_row _ _ _ _ _ (0, 0) hrow
        have HH := Lib.hid hx
        have HK2 := Lib.hid hK
        clear hK h1 h2 hx
        go_simp
        first
          | exact HK2.out _ (HH.out.next _ (by decide) (by decide) (by decide) (Below.refl _ _))
      try simp only [Act.put, List.setIfInBounds_toArray, List.set_cons_succ, List.set_cons_zero]
      apply GhostV.walk_const (fun γ => by rfl)
      · intro γ L wx h1 h2 hx K hK
        have hrow := (hx.put.other (w.heap.size + 1) (Array.getElem?_eq_some_iff.1 HB5.out.r1).1 (by omega)).trans HB5.out.r1
        have z0 : wx.cell? ⟨w.heap.size + 1, 0, none⟩ = some (.int .i64 2) := cell_of_row _ _ _ _ _ (0, 0) hrow
        have z1 : wx.cell? ⟨w.heap.size + 1, 1, none⟩ = some (.int .i64 m) := cell_of_row _ _ _ _ _ (0, 0) hrow
        have z2 : wx.cell? ⟨w.heap.size + 1, 2, none⟩ = some (.int .i64 n) := cell_of_row _ _ _ _ _ (0, 0) hrow
        have z3 : wx.cell? ⟨w.heap.size + 1, 3, none⟩ = some (.bool d) := cell_of_row _ _ _ _ _ (0, 0) hrow
        have z4 : wx.cell? ⟨w.heap.size + 1, 4, none⟩ = some (.int .i64 e) := cell_of_row _ _ _ _ _ (0, 0) hrow
        have HH := Lib.hid hx
        have HK2 := Lib.hid hK
        clear hK h1 h2 hx
        go_simp
        first
          | exact HK2.out _ (HH.out.next _ (by decide) (by decide) (by decide) (Below.refl _ _))
      try simp only [Act.put, List.setIfInBounds_toArray, List.set_cons_succ, List.set_cons_zero]
      refine GhostV.walk_yes (fun b => b) (fun γ => by rfl) ?_ ?_
      · intro γ L wx h1 h2 hx K hK
        obtain ⟨g, hg1, hg2, hg3, hg4⟩ := hx.lit (h2 1 (by kernel_rfl))
        simp only [hg2] at hK ⊢
        have hrow := (hx.put.other (w.heap.size + 1) (Array.getElem?_eq_some_iff.1 HB5.out.r1).1 (by omega)).trans HB5.out.r1
        have z0 : wx.cell? ⟨w.heap.size + 1, 0, none⟩ = some (.int .i64 2) := cell_of_row _ _ _ _ _ (0, 0) hrow
        have z1 : wx.cell? ⟨w.heap.size + 1, 1, none⟩ = some (.int .i64 m) := cell_of_row _ _ _ _ _ (0, 0) hrow
        have z2 : wx.cell? ⟨w.heap.size + 1, 2, none⟩ = some (.int .i64 n) := cell_of_row _ _ _ _ _ (0, 0) hrow
        have z3 : wx.cell? ⟨w.heap.size + 1, 3, none⟩ = some (.bool d) := cell_of_row _ _ _ _ _ (0, 0) hrow
        have z4 : wx.cell? ⟨w.heap.size + 1, 4, none⟩ = some (.int .i64 e) := cell_of_row _ _ _ _ _ (0, 0) hrow
        have HH := Lib.hid (hx.index (by decide) (by decide) (h2 1 (by kernel_rfl)) hg2)
        have HK2 := Lib.hid hK
        clear hK h1 h2 hx
        go_simp
        exact HK2.out _ _ HH.out
      try simp only [Act.put, List.setIfInBounds_toArray, List.set_cons_succ, List.set_cons_zero]
      apply GhostV.walk_const (fun γ => by rfl)
      · intro γ L wx h1 h2 hx K hK
        obtain ⟨g, hg1, -, hg3, hg4⟩ := hx.lit (hx.dep (h2 4 (by kernel_rfl)))
        replace hg4 := hg4 (h2 4 (by kernel_rfl))
        simp only [hg4] at hK ⊢
        have hgc := cell_of_row wx g 2 #[.int .i64 0, .int .i64 3, .int .i64 0, .int .i64 4] 3 (0, 0) hg3
        simp only [List.getElem?_toArray, List.getElem?_cons_zero, List.getElem?_cons_succ] at hgc
        have hrow := (hx.put.other (w.heap.size + 1) (Array.getElem?_eq_some_iff.1 HB5.out.r1).1 (by omega)).trans HB5.out.r1
        have z0 : wx.cell? ⟨w.heap.size + 1, 0, none⟩ = some (.int .i64 2) := cell_of_row _ _ _ _ _ (0, 0) hrow
        have z1 : wx.cell? ⟨w.heap.size + 1, 1, none⟩ = some (.int .i64 m) := cell_of_row _ _ _ _ _ (0, 0) hrow
        have z2 : wx.cell? ⟨w.heap.size + 1, 2, none⟩ = some (.int .i64 n) := cell_of_row _ _ _ _ _ (0, 0) hrow
        have z3 : wx.cell? ⟨w.heap.size + 1, 3, none⟩ = some (.bool d) := cell_of_row _ _ _ _ _ (0, 0) hrow
        have z4 : wx.cell? ⟨w.heap.size + 1, 4, none⟩ = some (.int .i64 e) := cell_of_row _ _ _ _ _ (0, 0) hrow
        have HH := Lib.hid hx
        have HK2 := Lib.hid hK
        clear hK h1 h2 hx
        go_simp
        first
          | exact HK2.out _ (HH.out.next _ (by decide) (by decide) (by decide) (Below.refl _ _))
      try simp only [Act.put, List.setIfInBounds_toArray, List.set_cons_succ, List.set_cons_zero]
      refine GhostV.walk_const (v := undef) (fun γ => by rfl) ?_ ?_
      · intro γ L wx h1 h2 hx K hK
        exact GL.store hx h1 (by decide) (by decide) (Array.getElem?_eq_some_iff.1 (HB5.out.r2)).1 25 _ _ rfl rfl rfl (by kernel_rfl) rfl (by kernel_rfl) (fun w2 h => hK _ (h _))
      try simp only [Act.put]
      apply GhostV.walk_const (fun γ => by rfl)
      · intro γ L wx h1 h2 hx K hK
        have hrow := (hx.put.other (w.heap.size + 1) (Array.getElem?_eq_some_iff.1 HB5.out.r1).1 (by omega)).trans HB5.out.r1
        have z0 : wx.cell? ⟨w.heap.size + 1, 0, none⟩ = some (.int .i64 2) := cell_of_row _ _ _ _ _ (0, 0) hrow
        have z1 : wx.cell? ⟨w.heap.size + 1, 1, none⟩ = some (.int .i64 m) := cell_of_row _ _ _ _ _ (0, 0) hrow
        have z2 : wx.cell? ⟨w.heap.size + 1, 2, none⟩ = some (.int .i64 n) := cell_of_row _ _ _ _ _ (0, 0) hrow
        have z3 : wx.cell? ⟨w.heap.size + 1, 3, none⟩ = some (.bool d) := cell_of_row _ _ _ _ _ (0, 0) hrow
        have z4 : wx.cell? ⟨w.heap.size + 1, 4, none⟩ = some (.int .i64 e) := cell_of_row _ _ _ _ _ (0, 0) hrow
        have HH := Lib.hid hx
        have HK2 := Lib.hid hK
        clear hK h1 h2 hx
        go_simp
        first
          | exact HK2.out _ (HH.out.next _ (by decide) (by decide) (by decide) (Below.refl _ _))
      try simp only [Act.put, List.setIfInBounds_toArray, List.set_cons_succ, List.set_cons_zero]
      refine GhostV.walk_nil (fun γ L w9 hall hx => ?_)
      have hp9 := hx.put1 (hall 6 (by decide))
      go_wp2_with fail
      exact bodyPost_ret (results_row_tmp Try.results8 _ _ _ _ _ (0, 0) _ rfl hp9.row Try.underlying25 rfl (by kernel_rfl)) rfl (⟨rfl, HB5.out.below.trans (hp9.below (by omega) HB5.out.below.size)⟩)
    · clear hk
      have HB0 := Lib.hid (bxs3 w (.cells #[.int .i64 t0, .int .i64 t1, .int .i64 t2, .int .i64 t3, .int .i64 t4, .int .i64 t5, .int .i64 t6, .int .i64 t7, .int .i64 t8] 23) (.cells #[.int .i64 2, .int .i64 b, .int .i64 c, .bool d, .int .i64 e] 25) (.cells #[.int .i64 0, .int .i64 0, .int .i64 0, .bool false, .int .i64 0] 25))
      go_enter Try.func8, Try.ntmps8
      go_wp2_with fail
      refine (F.out _).mono ?_
      rintro e w1 ⟨rfl, hb1⟩
      have HB1 := Lib.hid (HB0.out.next hb1)
      clear hb1 HB0
      have c0_6 : w1.cell? ⟨w.heap.size, 6, none⟩ = some (.int .i64 t6) := cell_of_row _ _ _ _ _ (0, 0) HB1.out.r0
      have c0_7 : w1.cell? ⟨w.heap.size, 7, none⟩ = some (.int .i64 t7) := cell_of_row _ _ _ _ _ (0, 0) HB1.out.r0
      have c1_0 : w1.cell? ⟨w.heap.size + 1, 0, none⟩ = some (.int .i64 2) := cell_of_row _ _ _ _ _ (0, 0) HB1.out.r1
      have c1_1 : w1.cell? ⟨w.heap.size + 1, 1, none⟩ = some (.int .i64 b) := cell_of_row _ _ _ _ _ (0, 0) HB1.out.r1
      have c1_2 : w1.cell? ⟨w.heap.size + 1, 2, none⟩ = some (.int .i64 c) := cell_of_row _ _ _ _ _ (0, 0) HB1.out.r1
      have c1_3 : w1.cell? ⟨w.heap.size + 1, 3, none⟩ = some (.bool d) := cell_of_row _ _ _ _ _ (0, 0) HB1.out.r1
      have c1_4 : w1.cell? ⟨w.heap.size + 1, 4, none⟩ = some (.int .i64 e) := cell_of_row _ _ _ _ _ (0, 0) HB1.out.r1
      go_wp2_with fail
      refine (FN.out _).mono ?_
      rintro e w2 ⟨rfl, hb2⟩
      have HB2 := Lib.hid (HB1.out.next hb2)
      clear c0_6 c0_7 c1_0 c1_1 c1_2 c1_3 c1_4 hb2 HB1
      have c0_6 : w2.cell? ⟨w.heap.size, 6, none⟩ = some (.int .i64 t6) := cell_of_row _ _ _ _ _ (0, 0) HB2.out.r0
      have c0_7 : w2.cell? ⟨w.heap.size, 7, none⟩ = some (.int .i64 t7) := cell_of_row _ _ _ _ _ (0, 0) HB2.out.r0
      have c1_0 : w2.cell? ⟨w.heap.size + 1, 0, none⟩ = some (.int .i64 2) := cell_of_row _ _ _ _ _ (0, 0) HB2.out.r1
      have c1_1 : w2.cell? ⟨w.heap.size + 1, 1, none⟩ = some (.int .i64 b) := cell_of_row _ _ _ _ _ (0, 0) HB2.out.r1
      have c1_2 : w2.cell? ⟨w.heap.size + 1, 2, none⟩ = some (.int .i64 c) := cell_of_row _ _ _ _ _ (0, 0) HB2.out.r1
      have c1_3 : w2.cell? ⟨w.heap.size + 1, 3, none⟩ = some (.bool d) := cell_of_row _ _ _ _ _ (0, 0) HB2.out.r1
      have c1_4 : w2.cell? ⟨w.heap.size + 1, 4, none⟩ = some (.int .i64 e) := cell_of_row _ _ _ _ _ (0, 0) HB2.out.r1
      go_wp2_with (with_reducible show wpList _ _ _ (Oper.mk _ (.store 3 _ _) _ _ _ _ :: _) _ _; refine Hid.out ?_)
      refine Lib.hid ?_
      refine wpList_putCell rfl 3 _ _ rfl (w.heap.size + 1) 2 (.int .i64 n) _ _ 25 rfl rfl HB2.out.r1 (by kernel_rfl) (by simp) rfl rfl rfl ?_
      intro w3 hr3 hg3
      have HB3 : Hid (Bx w [(w.heap.size, .cells #[.int .i64 t0, .int .i64 t1, .int .i64 t2, .int .i64 t3, .int .i64 t4, .int .i64 t5, .int .i64 t6, .int .i64 t7, .int .i64 t8] 23 (0, 0)), (w.heap.size + 1, .cells #[.int .i64 2, .int .i64 b, .int .i64 n, .bool d, .int .i64 e] 25 (0, 0)), (w.heap.size + 2, .cells #[.int .i64 0, .int .i64 0, .int .i64 0, .bool false, .int .i64 0] 25 (0, 0))] w3) := Lib.hid (HB2.out.put (by omega) hg3.out hr3.out (by simp only [List.mem_cons, List.not_mem_nil, or_false]; rintro p (rfl | rfl | rfl) <;> simp <;> omega))
      clear c0_6 c0_7 c1_0 c1_1 c1_2 c1_3 c1_4 hr3 hg3 HB2
      have c0_6 : w3.cell? ⟨w.heap.size, 6, none⟩ = some (.int .i64 t6) := cell_of_row _ _ _ _ _ (0, 0) HB3.out.r0
      have c0_7 : w3.cell? ⟨w.heap.size, 7, none⟩ = some (.int .i64 t7) := cell_of_row _ _ _ _ _ (0, 0) HB3.out.r0
      have c1_0 : w3.cell? ⟨w.heap.size + 1, 0, none⟩ = some (.int .i64 2) := cell_of_row _ _ _ _ _ (0, 0) HB3.out.r1
      have c1_1 : w3.cell? ⟨w.heap.size + 1, 1, none⟩ = some (.int .i64 b) := cell_of_row _ _ _ _ _ (0, 0) HB3.out.r1
      have c1_2 : w3.cell? ⟨w.heap.size + 1, 2, none⟩ = some (.int .i64 n) := cell_of_row _ _ _ _ _ (0, 0) HB3.out.r1
      have c1_3 : w3.cell? ⟨w.heap.size + 1, 3, none⟩ = some (.bool d) := cell_of_row _ _ _ _ _ (0, 0) HB3.out.r1
      have c1_4 : w3.cell? ⟨w.heap.size + 1, 4, none⟩ = some (.int .i64 e) := cell_of_row _ _ _ _ _ (0, 0) HB3.out.r1
      go_wp2_with fail
      refine (FM.out _).mono ?_
      rintro e w4 ⟨rfl, hb4⟩
      have HB4 := Lib.hid (HB3.out.next hb4)
      clear c0_6 c0_7 c1_0 c1_1 c1_2 c1_3 c1_4 hb4 HB3
      have c0_6 : w4.cell? ⟨w.heap.size, 6, none⟩ = some (.int .i64 t6) := cell_of_row _ _ _ _ _ (0, 0) HB4.out.r0
      have c0_7 : w4.cell? ⟨w.heap.size, 7, none⟩ = some (.int .i64 t7) := cell_of_row _ _ _ _ _ (0, 0) HB4.out.r0
      have c1_0 : w4.cell? ⟨w.heap.size + 1, 0, none⟩ = some (.int .i64 2) := cell_of_row _ _ _ _ _ (0, 0) HB4.out.r1
      have c1_1 : w4.cell? ⟨w.heap.size + 1, 1, none⟩ = some (.int .i64 b) := cell_of_row _ _ _ _ _ (0, 0) HB4.out.r1
      have c1_2 : w4.cell? ⟨w.heap.size + 1, 2, none⟩ = some (.int .i64 n) := cell_of_row _ _ _ _ _ (0, 0) HB4.out.r1
      have c1_3 : w4.cell? ⟨w.heap.size + 1, 3, none⟩ = some (.bool d) := cell_of_row _ _ _ _ _ (0, 0) HB4.out.r1
      have c1_4 : w4.cell? ⟨w.heap.size + 1, 4, none⟩ = some (.int .i64 e) := cell_of_row _ _ _ _ _ (0, 0) HB4.out.r1
      go_wp2_with (with_reducible show wpList _ _ _ (Oper.mk _ (.store 3 _ _) _ _ _ _ :: _) _ _; refine Hid.out ?_)
      refine Lib.hid ?_
      refine wpList_putCell rfl 3 _ _ rfl (w.heap.size + 1) 1 (.int .i64 m) _ _ 25 rfl rfl HB4.out.r1 (by kernel_rfl) (by simp) rfl rfl rfl ?_
      intro w5 hr5 hg5
      have HB5 : Hid (Bx w [(w.heap.size, .cells #[.int .i64 t0, .int .i64 t1, .int .i64 t2, .int .i64 t3, .int .i64 t4, .int .i64 t5, .int .i64 t6, .int .i64 t7, .int .i64 t8] 23 (0, 0)), (w.heap.size + 1, .cells #[.int .i64 2, .int .i64 m, .int .i64 n, .bool d, .int .i64 e] 25 (0, 0)), (w.heap.size + 2, .cells #[.int .i64 0, .int .i64 0, .int .i64 0, .bool false, .int .i64 0] 25 (0, 0))] w5) := Lib.hid (HB4.out.put (by omega) hg5.out hr5.out (by simp only [List.mem_cons, List.not_mem_nil, or_false]; rintro p (rfl | rfl | rfl) <;> simp <;> omega))
      clear c0_6 c0_7 c1_0 c1_1 c1_2 c1_3 c1_4 hr5 hg5 HB4
      have c0_6 : w5.cell? ⟨w.heap.size, 6, none⟩ = some (.int .i64 t6) := cell_of_row _ _ _ _ _ (0, 0) HB5.out.r0
      have c0_7 : w5.cell? ⟨w.heap.size, 7, none⟩ = some (.int .i64 t7) := cell_of_row _ _ _ _ _ (0, 0) HB5.out.r0
      have c1_0 : w5.cell? ⟨w.heap.size + 1, 0, none⟩ = some (.int .i64 2) := cell_of_row _ _ _ _ _ (0, 0) HB5.out.r1
      have c1_1 : w5.cell? ⟨w.heap.size + 1, 1, none⟩ = some (.int .i64 m) := cell_of_row _ _ _ _ _ (0, 0) HB5.out.r1
      have c1_2 : w5.cell? ⟨w.heap.size + 1, 2, none⟩ = some (.int .i64 n) := cell_of_row _ _ _ _ _ (0, 0) HB5.out.r1
      have c1_3 : w5.cell? ⟨w.heap.size + 1, 3, none⟩ = some (.bool d) := cell_of_row _ _ _ _ _ (0, 0) HB5.out.r1
      have c1_4 : w5.cell? ⟨w.heap.size + 1, 4, none⟩ = some (.int .i64 e) := cell_of_row _ _ _ _ _ (0, 0) HB5.out.r1
      go_wp2_with fail
      refine GhostV.ghost (fun γ L wx => GL (w5) (w.heap.size + 2) #[.int .i64 0, .int .i64 0, .int .i64 0, .bool false, .int .i64 0] #[.int .i64 2, .int .i64 m, .int .i64 n, .bool d, .int .i64 e] 25 #[.int .i64 0, .int .i64 3, .int .i64 0, .int .i64 4] 3 2 1 4 6 γ L wx) (by kernel_rfl) (by kernel_rfl) (fun γ => GL.start γ (HB5.out.r2)) ?_
      apply GhostV.walk_const (fun γ => by rfl)
      · intro γ L wx h1 h2 hx K hK
        have hrow := (hx.put.other (w.heap.size + 1) (Array.getElem?_eq_some_iff.1 HB5.out.r1).1 (by omega)).trans HB5.out.r1
        have z0 : wx.cell? ⟨w.heap.size + 1, 0, none⟩ = some (.int .i64 2) := cell_of_row _ _ _ _ _ (0, 0) hrow
        have z1 : wx.cell? ⟨w.heap.size + 1, 1, none⟩ = some (.int .i64 m) := cell_of_row _ _ _ _ _ (0, 0) hrow
        have z2 : wx.cell? ⟨w.heap.size + 1, 2, none⟩ = some (.int .i64 n) := cell_of_row _ _ _ _ _ (0, 0) hrow
        have z3 : wx.cell? ⟨w.heap.size + 1, 3, none⟩ = some (.bool d) := cell_of_row _ _ _ _ _ (0, 0) hrow
        have z4 : wx.cell? ⟨w.heap.size + 1, 4, none⟩ = some (.int .i64 e) := cell_of_row _ _ _ _ _ (0, 0) hrow
        have HH := Lib.hid hx
        have HK2 := Lib.hid hK
        clear hK h1 h2 hx
        go_simp
        first
          | exact HK2.out _ (HH.out.next _ (by decide) (by decide) (by decide) (Below.refl _ _))
      try simp only [Act.put, List.setIfInBounds_toArray, List.set_cons_succ, List.set_cons_zero]
      refine GhostV.walk_yes (fun b => b) (fun γ => by rfl) ?_ ?_
      · intro γ L wx h1 h2 hx K hK
        have hrow := (hx.put.other (w.heap.size + 1) (Array.getElem?_eq_some_iff.1 HB5.out.r1).1 (by omega)).trans HB5.out.r1
        have z0 : wx.cell? ⟨w.heap.size + 1, 0, none⟩ = some (.int .i64 2) := cell_of_row _ _ _ _ _ (0, 0) hrow
        have z1 : wx.cell? ⟨w.heap.size + 1, 1, none⟩ = some (.int .i64 m) := cell_of_row _ _ _ _ _ (0, 0) hrow
        have z2 : wx.cell? ⟨w.heap.size + 1, 2, none⟩ = some (.int .i64 n) := cell_of_row _ _ _ _ _ (0, 0) hrow
        have z3 : wx.cell? ⟨w.heap.size + 1, 3, none⟩ = some (.bool d) := cell_of_row _ _ _ _ _ (0, 0) hrow
        have z4 : wx.cell? ⟨w.heap.size + 1, 4, none⟩ = some (.int .i64 e) := cell_of_row _ _ _ _ _ (0, 0) hrow
        have HH := Lib.hid (hx.make h1 (by decide) (by decide))
        have HK2 := Lib.hid hK
        clear hK h1 h2 hx
        go_simp
        exact HK2.out _ _ HH.out
      try simp only [Act.put, List.setIfInBounds_toArray, List.set_cons_succ, List.set_cons_zero]
      apply GhostV.walk_const (fun γ => by rfl)
      · intro γ L wx h1 h2 hx K hK
        have hrow := (hx.put.other (w.heap.size + 1) (Array.getElem?_eq_some_iff.1 HB5.out.r1).1 (by omega)).trans HB5.out.r1
        have z0 : wx.cell? ⟨w.heap.size + 1, 0, none⟩ = some (.int .i64 2) := cell_of_row _ _ _ _ _ (0, 0) hrow
        have z1 : wx.cell? ⟨w.heap.size + 1, 1, none⟩ = some (.int .i64 m) := cell_of_row _ _ _ _ _ (0, 0) hrow
        have z2 : wx.cell? ⟨w.heap.size + 1, 2, none⟩ = some (.int .i64 n) := cell_of_row _ _ _ _ _ (0, 0) hrow
        have z3 : wx.cell? ⟨w.heap.size + 1, 3, none⟩ = some (.bool d) := cell_of_row _ _ _ _ _ (0, 0) hrow
        have z4 : wx.cell? ⟨w.heap.size + 1, 4, none⟩ = some (.int .i64 e) := cell_of_row _ _ _ _ _ (0, 0) hrow
        have HH := Lib.hid hx
        have HK2 := Lib.hid hK
        clear hK h1 h2 hx
        go_simp
        first
          | exact HK2.out _ (HH.out.next _ (by decide) (by decide) (by decide) (Below.refl _ _))
      try simp only [Act.put, List.setIfInBounds_toArray, List.set_cons_succ, List.set_cons_zero]
      apply GhostV.walk_const (fun γ => by rfl)
      · intro γ L wx h1 h2 hx K hK
        have hrow := (hx.put.other (w.heap.size + 1) (Array.getElem?_eq_some_iff.1 HB5.out.r1).1 (by omega)).trans HB5.out.r1
        have z0 : wx.cell? ⟨w.heap.size + 1, 0, none⟩ = some (.int .i64 2) := cell_of_row _ _ _ _ _ (0, 0) hrow
        have z1 : wx.cell? ⟨w.heap.size + 1, 1, none⟩ = some (.int .i64 m) := cell_of_row _ _ _ _ _ (0, 0) hrow
        have z2 : wx.cell? ⟨w.heap.size + 1, 2, none⟩ = some (.int .i64 n) := cell_of_row _ _ _ _ _ (0, 0) hrow
        have z3 : wx.cell? ⟨w.heap.size + 1, 3, none⟩ = some (.bool d) := cell_of_row _ _ _ _ _ (0, 0) hrow
        have z4 : wx.cell? ⟨w.heap.size + 1, 4, none⟩ = some (.int .i64 e) := cell_of_row _ _ _ _ _ (0, 0) hrow
        have HH := Lib.hid hx
        have HK2 := Lib.hid hK
        clear hK h1 h2 hx
        go_simp
        first
          | exact HK2.out _ (HH.out.next _ (by decide) (by decide) (by decide) (Below.refl _ _))
      try simp only [Act.put, List.setIfInBounds_toArray, List.set_cons_succ, List.set_cons_zero]
      refine GhostV.walk_yes (fun b => b) (fun γ => by rfl) ?_ ?_
      · intro γ L wx h1 h2 hx K hK
        obtain ⟨g, hg1, hg2, hg3, hg4⟩ := hx.lit (h2 1 (by kernel_rfl))
        simp only [hg2] at hK ⊢
        have hrow := (hx.put.other (w.heap.size + 1) (Array.getElem?_eq_some_iff.1 HB5.out.r1).1 (by omega)).trans HB5.out.r1
        have z0 : wx.cell? ⟨w.heap.size + 1, 0, none⟩ = some (.int .i64 2) := cell_of_row _ _ _ _ _ (0, 0) hrow
        have z1 : wx.cell? ⟨w.heap.size + 1, 1, none⟩ = some (.int .i64 m) := cell_of_row _ _ _ _ _ (0, 0) hrow
        have z2 : wx.cell? ⟨w.heap.size + 1, 2, none⟩ = some (.int .i64 n) := cell_of_row _ _ _ _ _ (0, 0) hrow
        have z3 : wx.cell? ⟨w.heap.size + 1, 3, none⟩ = some (.bool d) := cell_of_row _ _ _ _ _ (0, 0) hrow
        have z4 : wx.cell? ⟨w.heap.size + 1, 4, none⟩ = some (.int .i64 e) := cell_of_row _ _ _ _ _ (0, 0) hrow
        have HH := Lib.hid (hx.index (by decide) (by decide) (h2 1 (by kernel_rfl)) hg2)
        have HK2 := Lib.hid hK
        clear hK h1 h2 hx
        go_simp
        exact HK2.out _ _ HH.out
      try simp only [Act.put, List.setIfInBounds_toArray, List.set_cons_succ, List.set_cons_zero]
      apply GhostV.walk_const (fun γ => by rfl)
      · intro γ L wx h1 h2 hx K hK
        obtain ⟨g, hg1, -, hg3, hg4⟩ := hx.lit (hx.dep (h2 4 (by kernel_rfl)))
        replace hg4 := hg4 (h2 4 (by kernel_rfl))
        simp only [hg4] at hK ⊢
        have hgc := cell_of_row wx g 2 #[.int .i64 0, .int .i64 3, .int .i64 0, .int .i64 4] 3 (0, 0) hg3
        simp only [List.getElem?_toArray, List.getElem?_cons_zero, List.getElem?_cons_succ] at hgc
        have hrow := (hx.put.other (w.heap.size + 1) (Array.getElem?_eq_some_iff.1 HB5.out.r1).1 (by omega)).trans HB5.out.r1
        have z0 : wx.cell? ⟨w.heap.size + 1, 0, none⟩ = some (.int .i64 2) := cell_of_row _ _ _ _ _ (0, 0) hrow
        have z1 : wx.cell? ⟨w.heap.size + 1, 1, none⟩ = some (.int .i64 m) := cell_of_row _ _ _ _ _ (0, 0) hrow
        have z2 : wx.cell? ⟨w.heap.size + 1, 2, none⟩ = some (.int .i64 n) := cell_of_row _ _ _ _ _ (0, 0) hrow
        have z3 : wx.cell? ⟨w.heap.size + 1, 3, none⟩ = some (.bool d) := cell_of_row _ _ _ _ _ (0, 0) hrow
        have z4 : wx.cell? ⟨w.heap.size + 1, 4, none⟩ = some (.int .i64 e) := cell_of_row _ _ _ _ _ (0, 0) hrow
        have HH := Lib.hid hx
        have HK2 := Lib.hid hK
        clear hK h1 h2 hx
        go_simp
        first
          | exact HK2.out _ (HH.out.next _ (by decide) (by decide) (by decide) (Below.refl _ _))
      try simp only [Act.put, List.setIfInBounds_toArray, List.set_cons_succ, List.set_cons_zero]
      refine GhostV.walk_const (v := undef) (fun γ => by rfl) ?_ ?_
      · intro γ L wx h1 h2 hx K hK
        exact GL.store hx h1 (by decide) (by decide) (Array.getElem?_eq_some_iff.1 (HB5.out.r2)).1 25 _ _ rfl rfl rfl (by kernel_rfl) rfl (by kernel_rfl) (fun w2 h => hK _ (h _))
      try simp only [Act.put]
      apply GhostV.walk_const (fun γ => by rfl)
      · intro γ L wx h1 h2 hx K hK
        have hrow := (hx.put.other (w.heap.size + 1) (Array.getElem?_eq_some_iff.1 HB5.out.r1).1 (by omega)).trans HB5.out.r1
        have z0 : wx.cell? ⟨w.heap.size + 1, 0, none⟩ = some (.int .i64 2) := cell_of_row _ _ _ _ _ (0, 0) hrow
        have z1 : wx.cell? ⟨w.heap.size + 1, 1, none⟩ = some (.int .i64 m) := cell_of_row _ _ _ _ _ (0, 0) hrow
        have z2 : wx.cell? ⟨w.heap.size + 1, 2, none⟩ = some (.int .i64 n) := cell_of_row _ _ _ _ _ (0, 0) hrow
        have z3 : wx.cell? ⟨w.heap.size + 1, 3, none⟩ = some (.bool d) := cell_of_row _ _ _ _ _ (0, 0) hrow
        have z4 : wx.cell? ⟨w.heap.size + 1, 4, none⟩ = some (.int .i64 e) := cell_of_row _ _ _ _ _ (0, 0) hrow
        have HH := Lib.hid hx
        have HK2 := Lib.hid hK
        clear hK h1 h2 hx
        go_simp
        first
          | exact HK2.out _ (HH.out.next _ (by decide) (by decide) (by decide) (Below.refl _ _))
      try simp only [Act.put, List.setIfInBounds_toArray, List.set_cons_succ, List.set_cons_zero]
      refine GhostV.walk_nil (fun γ L w9 hall hx => ?_)
      have hp9 := hx.put1 (hall 6 (by decide))
      go_wp2_with fail
      exact bodyPost_ret (results_row_tmp Try.results8 _ _ _ _ _ (0, 0) _ rfl hp9.row Try.underlying25 rfl (by kernel_rfl)) rfl (⟨rfl, HB5.out.below.trans (hp9.below (by omega) HB5.out.below.size)⟩)
  · obtain rfl : c = 0 := by omega
    obtain rfl : (0 : Int) = n := hn
    have FM := Lib.hid (fun wx => refMore_any b wx hb)
    generalize Dr.more b = m at *
    clear hst hB hc he
    by_cases h1 : t6 ≤ b + 1
    · obtain rfl : bl = true := by cases bl; exact absurd ⟨h1, rfl⟩ hk; rfl
      clear hk
      have HB0 := Lib.hid (bxs3 w (.cells #[.int .i64 t0, .int .i64 t1, .int .i64 t2, .int .i64 t3, .int .i64 t4, .int .i64 t5, .int .i64 t6, .int .i64 t7, .int .i64 t8] 23) (.cells #[.int .i64 2, .int .i64 b, .int .i64 0, .bool d, .int .i64 e] 25) (.cells #[.int .i64 0, .int .i64 0, .int .i64 0, .bool false, .int .i64 0] 25))
      go_enter Try.func8, Try.ntmps8
      go_wp2_with fail
      refine (F.out _).mono ?_
      rintro e w1 ⟨rfl, hb1⟩
      have HB1 := Lib.hid (HB0.out.next hb1)
      clear hb1 HB0
      have c0_6 : w1.cell? ⟨w.heap.size, 6, none⟩ = some (.int .i64 t6) := cell_of_row _ _ _ _ _ (0, 0) HB1.out.r0
      have c0_7 : w1.cell? ⟨w.heap.size, 7, none⟩ = some (.int .i64 t7) := cell_of_row _ _ _ _ _ (0, 0) HB1.out.r0
      have c1_0 : w1.cell? ⟨w.heap.size + 1, 0, none⟩ = some (.int .i64 2) := cell_of_row _ _ _ _ _ (0, 0) HB1.out.r1
      have c1_1 : w1.cell? ⟨w.heap.size + 1, 1, none⟩ = some (.int .i64 b) := cell_of_row _ _ _ _ _ (0, 0) HB1.out.r1
      have c1_2 : w1.cell? ⟨w.heap.size + 1, 2, none⟩ = some (.int .i64 0) := cell_of_row _ _ _ _ _ (0, 0) HB1.out.r1
      have c1_3 : w1.cell? ⟨w.heap.size + 1, 3, none⟩ = some (.bool d) := cell_of_row _ _ _ _ _ (0, 0) HB1.out.r1
      have c1_4 : w1.cell? ⟨w.heap.size + 1, 4, none⟩ = some (.int .i64 e) := cell_of_row _ _ _ _ _ (0, 0) HB1.out.r1
      go_wp2_with fail
      refine (FM.out _).mono ?_
      rintro e w2 ⟨rfl, hb2⟩
      have HB2 := Lib.hid (HB1.out.next hb2)
      clear c0_6 c0_7 c1_0 c1_1 c1_2 c1_3 c1_4 hb2 HB1
      have c0_6 : w2.cell? ⟨w.heap.size, 6, none⟩ = some (.int .i64 t6) := cell_of_row _ _ _ _ _ (0, 0) HB2.out.r0
      have c0_7 : w2.cell? ⟨w.heap.size, 7, none⟩ = some (.int .i64 t7) := cell_of_row _ _ _ _ _ (0, 0) HB2.out.r0
      have c1_0 : w2.cell? ⟨w.heap.size + 1, 0, none⟩ = some (.int .i64 2) := cell_of_row _ _ _ _ _ (0, 0) HB2.out.r1
      have c1_1 : w2.cell? ⟨w.heap.size + 1, 1, none⟩ = some (.int .i64 b) := cell_of_row _ _ _ _ _ (0, 0) HB2.out.r1
      have c1_2 : w2.cell? ⟨w.heap.size + 1, 2, none⟩ = some (.int .i64 0) := cell_of_row _ _ _ _ _ (0, 0) HB2.out.r1
      have c1_3 : w2.cell? ⟨w.heap.size + 1, 3, none⟩ = some (.bool d) := cell_of_row _ _ _ _ _ (0, 0) HB2.out.r1
      have c1_4 : w2.cell? ⟨w.heap.size + 1, 4, none⟩ = some (.int .i64 e) := cell_of_row _ _ _ _ _ (0, 0) HB2.out.r1
      go_wp2_with (with_reducible show wpList _ _ _ (Oper.mk _ (.store 3 _ _) _ _ _ _ :: _) _ _; refine Hid.out ?_)
      refine Lib.hid ?_
      refine wpList_putCell rfl 3 _ _ rfl (w.heap.size + 1) 1 (.int .i64 m) _ _ 25 rfl rfl HB2.out.r1 (by kernel_rfl) (by simp) rfl rfl rfl ?_
      intro w3 hr3 hg3
      have HB3 : Hid (Bx w [(w.heap.size, .cells #[.int .i64 t0, .int .i64 t1, .int .i64 t2, .int .i64 t3, .int .i64 t4, .int .i64 t5, .int .i64 t6, .int .i64 t7, .int .i64 t8] 23 (0, 0)), (w.heap.size + 1, .cells #[.int .i64 2, .int .i64 m, .int .i64 0, .bool d, .int .i64 e] 25 (0, 0)), (w.heap.size + 2, .cells #[.int .i64 0, .int .i64 0, .int .i64 0, .bool false, .int .i64 0] 25 (0, 0))] w3) := Lib.hid (HB2.out.put (by omega) hg3.out hr3.out (by simp only [List.mem_cons, List.not_mem_nil, or_false]; rintro p (rfl | rfl | rfl) <;> simp <;> omega))
      clear c0_6 c0_7 c1_0 c1_1 c1_2 c1_3 c1_4 hr3 hg3 HB2
      have c0_6 : w3.cell? ⟨w.heap.size, 6, none⟩ = some (.int .i64 t6) := cell_of_row _ _ _ _ _ (0, 0) HB3.out.r0
      have c0_7 : w3.cell? ⟨w.heap.size, 7, none⟩ = some (.int .i64 t7) := cell_of_row _ _ _ _ _ (0, 0) HB3.out.r0
      have c1_0 : w3.cell? ⟨w.heap.size + 1, 0, none⟩ = some (.int .i64 2) := cell_of_row _ _ _ _ _ (0, 0) HB3.out.r1
      have c1_1 : w3.cell? ⟨w.heap.size + 1, 1, none⟩ = some (.int .i64 m) := cell_of_row _ _ _ _ _ (0, 0) HB3.out.r1
      have c1_2 : w3.cell? ⟨w.heap.size + 1, 2, none⟩ = some (.int .i64 0) := cell_of_row _ _ _ _ _ (0, 0) HB3.out.r1
      have c1_3 : w3.cell? ⟨w.heap.size + 1, 3, none⟩ = some (.bool d) := cell_of_row _ _ _ _ _ (0, 0) HB3.out.r1
      have c1_4 : w3.cell? ⟨w.heap.size + 1, 4, none⟩ = some (.int .i64 e) := cell_of_row _ _ _ _ _ (0, 0) HB3.out.r1
      go_wp2_with fail
      refine GhostV.ghost (fun γ L wx => GL (w3) (w.heap.size + 2) #[.int .i64 0, .int .i64 0, .int .i64 0, .bool false, .int .i64 0] #[.int .i64 2, .int .i64 m, .int .i64 0, .bool d, .int .i64 e] 25 #[.int .i64 0, .int .i64 3, .int .i64 0, .int .i64 4] 3 2 1 4 6 γ L wx) (by kernel_rfl) (by kernel_rfl) (fun γ => GL.start γ (HB3.out.r2)) ?_
      apply GhostV.walk_const (fun γ => by rfl)
      · intro γ L wx h1 h2 hx K hK
        have hrow := (hx.put.other (w.heap.size + 1) (Array.getElem?_eq_some_iff.1 HB3.out.r1).1 (by omega)).trans HB3.out.r1
        have z0 : wx.cell? ⟨w.heap.size + 1, 0, none⟩ = some (.int .i64 2) := cell_of_row _ _ _ _ _ (0, 0) hrow
        have z1 : wx.cell? ⟨w.heap.size + 1, 1, none⟩ = some (.int .i64 m) := cell_of_row _ _ _ _ _ (0, 0) hrow
        have z2 : wx.cell? ⟨w.heap.size + 1, 2, none⟩ = some (.int .i64 0) := cell_of_row _ _ _ _ _ (0, 0) hrow
        have z3 : wx.cell? ⟨w.heap.size + 1, 3, none⟩ = some (.bool d) := cell_of_row _ _ _ _ _ (0, 0) hrow
        have z4 : wx.cell? ⟨w.heap.size + 1, 4, none⟩ = some (.int .i64 e) := cell_of_row _ _ _ _ _ (0, 0) hrow
        have HH := Lib.hid hx
        have HK2 := Lib.hid hK
        clear hK h1 h2 hx
        go_simp
        first
          | exact HK2.out _ (HH.out.next _ (by decide) (by decide) (by decide) (Below.refl _ _))
      try simp only [Act.put, List.setIfInBounds_toArray, List.set_cons_succ, List.set_cons_zero]
      refine GhostV.walk_yes (fun b => b) (fun γ => by rfl) ?_ ?_
      · intro γ L wx h1 h2 hx K hK
        have hrow := (hx.put.other (w.heap.size + 1) (Array.getElem?_eq_some_iff.1 HB3.out.r1).1 (by omega)).trans HB3.out.r1
        have z0 : wx.cell? ⟨w.heap.size + 1, 0, none⟩ = some (.int .i64 2) := cell_of_row _ _ _ _ _ (0, 0) hrow
        have z1 : wx.cell? ⟨w.heap.size + 1, 1, none⟩ = some (.int .i64 m) := cell_of_row _ _ _ _ _ (0, 0) hrow
        have z2 : wx.cell? ⟨w.heap.size + 1, 2, none⟩ = some (.int .i64 0) := cell_of_row _ _ _ _ _ (0, 0) hrow
        have z3 : wx.cell? ⟨w.heap.size + 1, 3, none⟩ = some (.bool d) := cell_of_row _ _ _ _ _ (0, 0) hrow
        have z4 : wx.cell? ⟨w.heap.size + 1, 4, none⟩ = some (.int .i64 e) := cell_of_row _ _ _ _ _ (0, 0) hrow
        have HH := Lib.hid (hx.make h1 (by decide) (by decide))
        have HK2 := Lib.hid hK
        clear hK h1 h2 hx
        go_simp
        exact HK2.out _ _ HH.out
      try simp only [Act.put, List.setIfInBounds_toArray, List.set_cons_succ, List.set_cons_zero]
      apply GhostV.walk_const (fun γ => by rfl)
      · intro γ L wx h1 h2 hx K hK
        have hrow := (hx.put.other (w.heap.size + 1) (Array.getElem?_eq_some_iff.1 HB3.out.r1).1 (by omega)).trans HB3.out.r1
        have z0 : wx.cell? ⟨w.heap.size + 1, 0, none⟩ = some (.int .i64 2) := cell_of_row _ _ _ _ _ (0, 0) hrow
        have z1 : wx.cell? ⟨w.heap.size + 1, 1, none⟩ = some (.int .i64 m) := cell_of_row _ _ _ _ _ (0, 0) hrow
        have z2 : wx.cell? ⟨w.heap.size + 1, 2, none⟩ = some (.int .i64 0) := cell_of_row _ _ _ _ _ (0, 0) hrow
        have z3 : wx.cell? ⟨w.heap.size + 1, 3, none⟩ = some (.bool d) := cell_of_row _ _ _ _ _ (0, 0) hrow
        have z4 : wx.cell? ⟨w.heap.size + 1, 4, none⟩ = some (.int .i64 e) := cell_of_row _ _ _ _ _ (0, 0) hrow
        have HH := Lib.hid hx
        have HK2 := Lib.hid hK
        clear hK h1 h2 hx
        go_simp
        first
          | exact HK2.out _ (HH.out.next _ (by decide) (by decide) (by decide) (Below.refl _ _))
      try simp only [Act.put, List.setIfInBounds_toArray, List.set_cons_succ, List.set_cons_zero]
      apply GhostV.walk_const (fun γ => by rfl)
      · intro γ L wx h1 h2 hx K hK
        have hrow := (hx.put.other (w.heap.size + 1) (Array.getElem?_eq_some_iff.1 HB3.out.r1).1 (by omega)).trans HB3.out.r1
        have z0 : wx.cell? ⟨w.heap.size + 1, 0, none⟩ = some (.int .i64 2) := cell_of_row _ _ _ _ _ (0, 0) hrow
        have z1 : wx.cell? ⟨w.heap.size + 1, 1, none⟩ = some (.int .i64 m) := cell_of_row _ _ _ _ _ (0, 0) hrow
        have z2 : wx.cell? ⟨w.heap.size + 1, 2, none⟩ = some (.int .i64 0) := cell_of_row _ _ _ _ _ (0, 0) hrow
        have z3 : wx.cell? ⟨w.heap.size + 1, 3, none⟩ = some (.bool d) := cell_of_row _ _ _ _ _ (0, 0) hrow
        have z4 : wx.cell? ⟨w.heap.size + 1, 4, none⟩ = some (.int .i64 e) := cell_of_row _ _ _ _ _ (0, 0) hrow
        have HH := Lib.hid hx
        have HK2 := Lib.hid hK
        clear hK h1 h2 hx
        go_simp
        first
          | exact HK2.out _ (HH.out.next _ (by decide) (by decide) (by decide) (Below.refl _ _))
      try simp only [Act.put, List.setIfInBounds_toArray, List.set_cons_succ, List.set_cons_zero]
      refine GhostV.walk_yes (fun b => b) (fun γ => by rfl) ?_ ?_
      · intro γ L wx h1 h2 hx K hK
        obtain ⟨g, hg1, hg2, hg3, hg4⟩ := hx.lit (h2 1 (by kernel_rfl))
        simp only [hg2] at hK ⊢
        have hrow := (hx.put.other (w.heap.size + 1) (Array.getElem?_eq_some_iff.1 HB3.out.r1).1 (by omega)).trans HB3.out.r1
        have z0 : wx.cell? ⟨w.heap.size + 1, 0, none⟩ = some (.int .i64 2) := cell_of_row _ _ _ _ _ (0, 0) hrow
        have z1 : wx.cell? ⟨w.heap.size + 1, 1, none⟩ = some (.int .i64 m) := cell_of_row _ _ _ _ _ (0, 0) hrow
        have z2 : wx.cell? ⟨w.heap.size + 1, 2, none⟩ = some (.int .i64 0) := cell_of_row _ _ _ _ _ (0, 0) hrow
        have z3 : wx.cell? ⟨w.heap.size + 1, 3, none⟩ = some (.bool d) := cell_of_row _ _ _ _ _ (0, 0) hrow
        have z4 : wx.cell? ⟨w.heap.size + 1, 4, none⟩ = some (.int .i64 e) := cell_of_row _ _ _ _ _ (0, 0) hrow
        have HH := Lib.hid (hx.index (by decide) (by decide) (h2 1 (by kernel_rfl)) hg2)
        have HK2 := Lib.hid hK
        clear hK h1 h2 hx
        go_simp
        exact HK2.out _ _ HH.out
      try simp only [Act.put, List.setIfInBounds_toArray, List.set_cons_succ, List.set_cons_zero]
      apply GhostV.walk_const (fun γ => by rfl)
      · intro γ L wx h1 h2 hx K hK
        obtain ⟨g, hg1, -, hg3, hg4⟩ := hx.lit (hx.dep (h2 4 (by kernel_rfl)))
        replace hg4 := hg4 (h2 4 (by kernel_rfl))
        simp only [hg4] at hK ⊢
        have hgc := cell_of_row wx g 2 #[.int .i64 0, .int .i64 3, .int .i64 0, .int .i64 4] 3 (0, 0) hg3
        simp only [List.getElem?_toArray, List.getElem?_cons_zero, List.getElem?_cons_succ] at hgc
        have hrow := (hx.put.other (w.heap.size + 1) (Array.getElem?_eq_some_iff.1 HB3.out.r1).1 (by omega)).trans HB3.out.r1
        have z0 : wx.cell? ⟨w.heap.size + 1, 0, none⟩ = some (.int .i64 2) := cell_of_row _ _ _ _ _ (0, 0) hrow
        have z1 : wx.cell? ⟨w.heap.size + 1, 1, none⟩ = some (.int .i64 m) := cell_of_row _ _ _ _ _ (0, 0) hrow
        have z2 : wx.cell? ⟨w.heap.size + 1, 2, none⟩ = some (.int .i64 0) := cell_of_row _ _ _ _ _ (0, 0) hrow
        have z3 : wx.cell? ⟨w.heap.size + 1, 3, none⟩ = some (.bool d) := cell_of_row _ _ _ _ _ (0, 0) hrow
        have z4 : wx.cell? ⟨w.heap.size + 1, 4, none⟩ = some (.int .i64 e) := cell_of_row _ _ _ _ _ (0, 0) hrow
        have HH := Lib.hid hx
        have HK2 := Lib.hid hK
        clear hK h1 h2 hx
        go_simp
        first
          | exact HK2.out _ (HH.out.next _ (by decide) (by decide) (by decide) (Below.refl _ _))
      try simp only [Act.put, List.setIfInBounds_toArray, List.set_cons_succ, List.set_cons_zero]
      refine GhostV.walk_const (v := undef) (fun γ => by rfl) ?_ ?_
      · intro γ L wx h1 h2 hx K hK
        exact GL.store hx h1 (by decide) (by decide) (Array.getElem?_eq_some_iff.1 (HB3.out.r2)).1 25 _ _ rfl rfl rfl (by kernel_rfl) rfl (by kernel_rfl) (fun w2 h => hK _ (h _))
      try simp only [Act.put]
      apply GhostV.walk_const (fun γ => by rfl)
      · intro γ L wx h1 h2 hx K hK
        have hrow := (hx.put.other (w.heap.size + 1) (Array.getElem?_eq_some_iff.1 HB3.out.r1).1 (by omega)).trans HB3.out.r1
        have z0 : wx.cell? ⟨w.heap.size + 1, 0, none⟩ = some (.int .i64 2) := cell_of_row _ _ _ _ _ (0, 0) hrow
        have z1 : wx.cell? ⟨w.heap.size + 1, 1, none⟩ = some (.int .i64 m) := cell_of_row _ _ _ _ _ (0, 0) hrow
        have z2 : wx.cell? ⟨w.heap.size + 1, 2, none⟩ = some (.int .i64 0) := cell_of_row _ _ _ _ _ (0, 0) hrow
        have z3 : wx.cell? ⟨w.heap.size + 1, 3, none⟩ = some (.bool d) := cell_of_row _ _ _ _ _ (0, 0) hrow
        have z4 : wx.cell? ⟨w.heap.size + 1, 4, none⟩ = some (.int .i64 e) := cell_of_row _ _ _ _ _ (0, 0) hrow
        have HH := Lib.hid hx
        have HK2 := Lib.hid hK
        clear hK h1 h2 hx
        go_simp
        first
          | exact HK2.out _ (HH.out.next _ (by decide) (by decide) (by decide) (Below.refl _ _))
      try simp only [Act.put, List.setIfInBounds_toArray, List.set_cons_succ, List.set_cons_zero]
      refine GhostV.walk_nil (fun γ L w9 hall hx => ?_)
      have hp9 := hx.put1 (hall 6 (by decide))
      go_wp2_with fail
      exact bodyPost_ret (results_row_tmp Try.results8 _ _ _ _ _ (0, 0) _ rfl hp9.row Try.underlying25 rfl (by kernel_rfl)) rfl (⟨rfl, HB3.out.below.trans (hp9.below (by omega) HB3.out.below.size)⟩)
    · clear hk
      have HB0 := Lib.hid (bxs3 w (.cells #[.int .i64 t0, .int .i64 t1, .int .i64 t2, .int .i64 t3, .int .i64 t4, .int .i64 t5, .int .i64 t6, .int .i64 t7, .int .i64 t8] 23) (.cells #[.int .i64 2, .int .i64 b, .int .i64 0, .bool d, .int .i64 e] 25) (.cells #[.int .i64 0, .int .i64 0, .int .i64 0, .bool false, .int .i64 0] 25))
      go_enter Try.func8, Try.ntmps8
      go_wp2_with fail
      refine (F.out _).mono ?_
      rintro e w1 ⟨rfl, hb1⟩
      have HB1 := Lib.hid (HB0.out.next hb1)
      clear hb1 HB0
      have c0_6 : w1.cell? ⟨w.heap.size, 6, none⟩ = some (.int .i64 t6) := cell_of_row _ _ _ _ _ (0, 0) HB1.out.r0
      have c0_7 : w1.cell? ⟨w.heap.size, 7, none⟩ = some (.int .i64 t7) := cell_of_row _ _ _ _ _ (0, 0) HB1.out.r0
      have c1_0 : w1.cell? ⟨w.heap.size + 1, 0, none⟩ = some (.int .i64 2) := cell_of_row _ _ _ _ _ (0, 0) HB1.out.r1
      have c1_1 : w1.cell? ⟨w.heap.size + 1, 1, none⟩ = some (.int .i64 b) := cell_of_row _ _ _ _ _ (0, 0) HB1.out.r1
      have c1_2 : w1.cell? ⟨w.heap.size + 1, 2, none⟩ = some (.int .i64 0) := cell_of_row _ _ _ _ _ (0, 0) HB1.out.r1
      have c1_3 : w1.cell? ⟨w.heap.size + 1, 3, none⟩ = some (.bool d) := cell_of_row _ _ _ _ _ (0, 0) HB1.out.r1
      have c1_4 : w1.cell? ⟨w.heap.size + 1, 4, none⟩ = some (.int .i64 e) := cell_of_row _ _ _ _ _ (0, 0) HB1.out.r1
      go_wp2_with fail
      refine (FM.out _).mono ?_
      rintro e w2 ⟨rfl, hb2⟩
      have HB2 := Lib.hid (HB1.out.next hb2)
      clear c0_6 c0_7 c1_0 c1_1 c1_2 c1_3 c1_4 hb2 HB1
      have c0_6 : w2.cell? ⟨w.heap.size, 6, none⟩ = some (.int .i64 t6) := cell_of_row _ _ _ _ _ (0, 0) HB2.out.r0
      have c0_7 : w2.cell? ⟨w.heap.size, 7, none⟩ = some (.int .i64 t7) := cell_of_row _ _ _ _ _ (0, 0) HB2.out.r0
      have c1_0 : w2.cell? ⟨w.heap.size + 1, 0, none⟩ = some (.int .i64 2) := cell_of_row _ _ _ _ _ (0, 0) HB2.out.r1
      have c1_1 : w2.cell? ⟨w.heap.size + 1, 1, none⟩ = some (.int .i64 b) := cell_of_row _ _ _ _ _ (0, 0) HB2.out.r1
      have c1_2 : w2.cell? ⟨w.heap.size + 1, 2, none⟩ = some (.int .i64 0) := cell_of_row _ _ _ _ _ (0, 0) HB2.out.r1
      have c1_3 : w2.cell? ⟨w.heap.size + 1, 3, none⟩ = some (.bool d) := cell_of_row _ _ _ _ _ (0, 0) HB2.out.r1
      have c1_4 : w2.cell? ⟨w.heap.size + 1, 4, none⟩ = some (.int .i64 e) := cell_of_row _ _ _ _ _ (0, 0) HB2.out.r1
      go_wp2_with (with_reducible show wpList _ _ _ (Oper.mk _ (.store 3 _ _) _ _ _ _ :: _) _ _; refine Hid.out ?_)
      refine Lib.hid ?_
      refine wpList_putCell rfl 3 _ _ rfl (w.heap.size + 1) 1 (.int .i64 m) _ _ 25 rfl rfl HB2.out.r1 (by kernel_rfl) (by simp) rfl rfl rfl ?_
      intro w3 hr3 hg3
      have HB3 : Hid (Bx w [(w.heap.size, .cells #[.int .i64 t0, .int .i64 t1, .int .i64 t2, .int .i64 t3, .int .i64 t4, .int .i64 t5, .int .i64 t6, .int .i64 t7, .int .i64 t8] 23 (0, 0)), (w.heap.size + 1, .cells #[.int .i64 2, .int .i64 m, .int .i64 0, .bool d, .int .i64 e] 25 (0, 0)), (w.heap.size + 2, .cells #[.int .i64 0, .int .i64 0, .int .i64 0, .bool false, .int .i64 0] 25 (0, 0))] w3) := Lib.hid (HB2.out.put (by omega) hg3.out hr3.out (by simp only [List.mem_cons, List.not_mem_nil, or_false]; rintro p (rfl | rfl | rfl) <;> simp <;> omega))
      clear c0_6 c0_7 c1_0 c1_1 c1_2 c1_3 c1_4 hr3 hg3 HB2
      have c0_6 : w3.cell? ⟨w.heap.size, 6, none⟩ = some (.int .i64 t6) := cell_of_row _ _ _ _ _ (0, 0) HB3.out.r0
      have c0_7 : w3.cell? ⟨w.heap.size, 7, none⟩ = some (.int .i64 t7) := cell_of_row _ _ _ _ _ (0, 0) HB3.out.r0
      have c1_0 : w3.cell? ⟨w.heap.size + 1, 0, none⟩ = some (.int .i64 2) := cell_of_row _ _ _ _ _ (0, 0) HB3.out.r1
      have c1_1 : w3.cell? ⟨w.heap.size + 1, 1, none⟩ = some (.int .i64 m) := cell_of_row _ _ _ _ _ (0, 0) HB3.out.r1
      have c1_2 : w3.cell? ⟨w.heap.size + 1, 2, none⟩ = some (.int .i64 0) := cell_of_row _ _ _ _ _ (0, 0) HB3.out.r1
      have c1_3 : w3.cell? ⟨w.heap.size + 1, 3, none⟩ = some (.bool d) := cell_of_row _ _ _ _ _ (0, 0) HB3.out.r1
      have c1_4 : w3.cell? ⟨w.heap.size + 1, 4, none⟩ = some (.int .i64 e) := cell_of_row _ _ _ _ _ (0, 0) HB3.out.r1
      go_wp2_with fail
      refine GhostV.ghost (fun γ L wx => GL (w3) (w.heap.size + 2) #[.int .i64 0, .int .i64 0, .int .i64 0, .bool false, .int .i64 0] #[.int .i64 2, .int .i64 m, .int .i64 0, .bool d, .int .i64 e] 25 #[.int .i64 0, .int .i64 3, .int .i64 0, .int .i64 4] 3 2 1 4 6 γ L wx) (by kernel_rfl) (by kernel_rfl) (fun γ => GL.start γ (HB3.out.r2)) ?_
      apply GhostV.walk_const (fun γ => by rfl)
      · intro γ L wx h1 h2 hx K hK
        have hrow := (hx.put.other (w.heap.size + 1) (Array.getElem?_eq_some_iff.1 HB3.out.r1).1 (by omega)).trans HB3.out.r1
        have z0 : wx.cell? ⟨w.heap.size + 1, 0, none⟩ = some (.int .i64 2) := cell_of_row _ _ _ _ _ (0, 0) hrow
        have z1 : wx.cell? ⟨w.heap.size + 1, 1, none⟩ = some (.int .i64 m) := cell_of_row _ _ _ _ _ (0, 0) hrow
        have z2 : wx.cell? ⟨w.heap.size + 1, 2, none⟩ = some (.int .i64 0) := cell_of_row _ _ _ _ _ (0, 0) hrow
        have z3 : wx.cell? ⟨w.heap.size + 1, 3, none⟩ = some (.bool d) := cell_of_row _ _ _ _ _ (0, 0) hrow
        have z4 : wx.cell? ⟨w.heap.size + 1, 4, none⟩ = some (.int .i64 e) := cell_of_row _ _ _ _ _ (0, 0) hrow
        have HH := Lib.hid hx
        have HK2 := Lib.hid hK
        clear hK h1 h2 hx
        go_simp
        first
          | exact HK2.out _ (HH.out.next _ (by decide) (by decide) (by decide) (Below.refl _ _))
      try simp only [Act.put, List.setIfInBounds_toArray, List.set_cons_succ, List.set_cons_zero]
      refine GhostV.walk_yes (fun b => b) (fun γ => by rfl) ?_ ?_
      · intro γ L wx h1 h2 hx K hK
        have hrow := (hx.put.other (w.heap.size + 1) (Array.getElem?_eq_some_iff.1 HB3.out.r1).1 (by omega)).trans HB3.out.r1
        have z0 : wx.cell? ⟨w.heap.size + 1, 0, none⟩ = some (.int .i64 2) := cell_of_row _ _ _ _ _ (0, 0) hrow
        have z1 : wx.cell? ⟨w.heap.size + 1, 1, none⟩ = some (.int .i64 m) := cell_of_row _ _ _ _ _ (0, 0) hrow
        have z2 : wx.cell? ⟨w.heap.size + 1, 2, none⟩ = some (.int .i64 0) := cell_of_row _ _ _ _ _ (0, 0) hrow
        have z3 : wx.cell? ⟨w.heap.size + 1, 3, none⟩ = some (.bool d) := cell_of_row _ _ _ _ _ (0, 0) hrow
        have z4 : wx.cell? ⟨w.heap.size + 1, 4, none⟩ = some (.int .i64 e) := cell_of_row _ _ _ _ _ (0, 0) hrow
        have HH := Lib.hid (hx.make h1 (by decide) (by decide))
        have HK2 := Lib.hid hK
        clear hK h1 h2 hx
        go_simp
        exact HK2.out _ _ HH.out
      try simp only [Act.put, List.setIfInBounds_toArray, List.set_cons_succ, List.set_cons_zero]
      apply GhostV.walk_const (fun γ => by rfl)
      · intro γ L wx h1 h2 hx K hK
        have hrow := (hx.put.other (w.heap.size + 1) (Array.getElem?_eq_some_iff.1 HB3.out.r1).1 (by omega)).trans HB3.out.r1
        have z0 : wx.cell? ⟨w.heap.size + 1, 0, none⟩ = some (.int .i64 2) := cell_of_row _ _ _ _ _ (0, 0) hrow
        have z1 : wx.cell? ⟨w.heap.size + 1, 1, none⟩ = some (.int .i64 m) := cell_of_row _ _ _ _ _ (0, 0) hrow
        have z2 : wx.cell? ⟨w.heap.size + 1, 2, none⟩ = some (.int .i64 0) := cell_of_row _ _ _ _ _ (0, 0) hrow
        have z3 : wx.cell? ⟨w.heap.size + 1, 3, none⟩ = some (.bool d) := cell_of_row _ _ _ _ _ (0, 0) hrow
        have z4 : wx.cell? ⟨w.heap.size + 1, 4, none⟩ = some (.int .i64 e) := cell_of_row _ _ _ _ _ (0, 0) hrow
        have HH := Lib.hid hx
        have HK2 := Lib.hid hK
        clear hK h1 h2 hx
        go_simp
        first
          | exact HK2.out _ (HH.out.next _ (by decide) (by decide) (by decide) (Below.refl _ _))
      try simp only [Act.put, List.setIfInBounds_toArray, List.set_cons_succ, List.set_cons_zero]
      apply GhostV.walk_const (fun γ => by rfl)
      · intro γ L wx h1 h2 hx K hK
        have hrow := (hx.put.other (w.heap.size + 1) (Array.getElem?_eq_some_iff.1 HB3.out.r1).1 (by omega)).trans HB3.out.r1
        have z0 : wx.cell? ⟨w.heap.size + 1, 0, none⟩ = some (.int .i64 2) := cell_of_row _ _ _ _ _ (0, 0) hrow
        have z1 : wx.cell? ⟨w.heap.size + 1, 1, none⟩ = some (.int .i64 m) := cell_of_row _ _ _ _ _ (0, 0) hrow
        have z2 : wx.cell? ⟨w.heap.size + 1, 2, none⟩ = some (.int .i64 0) := cell_of_row _ _ _ _ _ (0, 0) hrow
        have z3 : wx.cell? ⟨w.heap.size + 1, 3, none⟩ = some (.bool d) := cell_of_row _ _ _ _ _ (0, 0) hrow
        have z4 : wx.cell? ⟨w.heap.size + 1, 4, none⟩ = some (.int .i64 e) := cell_of_row _ _ _ _ _ (0, 0) hrow
        have HH := Lib.hid hx
        have HK2 := Lib.hid hK
        clear hK h1 h2 hx
        go_simp
        first
          | exact HK2.out _ (HH.out.next _ (by decide) (by decide) (by decide) (Below.refl _ _))
      try simp only [Act.put, List.setIfInBounds_toArray, List.set_cons_succ, List.set_cons_zero]
      refine GhostV.walk_yes (fun b => b) (fun γ => by rfl) ?_ ?_
      · intro γ L wx h1 h2 hx K hK
        obtain ⟨g, hg1, hg2, hg3, hg4⟩ := hx.lit (h2 1 (by kernel_rfl))
        simp only [hg2] at hK ⊢
        have hrow := (hx.put.other (w.heap.size + 1) (Array.getElem?_eq_some_iff.1 HB3.out.r1).1 (by omega)).trans HB3.out.r1
        have z0 : wx.cell? ⟨w.heap.size + 1, 0, none⟩ = some (.int .i64 2) := cell_of_row _ _ _ _ _ (0, 0) hrow
        have z1 : wx.cell? ⟨w.heap.size + 1, 1, none⟩ = some (.int .i64 m) := cell_of_row _ _ _ _ _ (0, 0) hrow
        have z2 : wx.cell? ⟨w.heap.size + 1, 2, none⟩ = some (.int .i64 0) := cell_of_row _ _ _ _ _ (0, 0) hrow
        have z3 : wx.cell? ⟨w.heap.size + 1, 3, none⟩ = some (.bool d) := cell_of_row _ _ _ _ _ (0, 0) hrow
        have z4 : wx.cell? ⟨w.heap.size + 1, 4, none⟩ = some (.int .i64 e) := cell_of_row _ _ _ _ _ (0, 0) hrow
        have HH := Lib.hid (hx.index (by decide) (by decide) (h2 1 (by kernel_rfl)) hg2)
        have HK2 := Lib.hid hK
        clear hK h1 h2 hx
        go_simp
        exact HK2.out _ _ HH.out
      try simp only [Act.put, List.setIfInBounds_toArray, List.set_cons_succ, List.set_cons_zero]
      apply GhostV.walk_const (fun γ => by rfl)
      · intro γ L wx h1 h2 hx K hK
        obtain ⟨g, hg1, -, hg3, hg4⟩ := hx.lit (hx.dep (h2 4 (by kernel_rfl)))
        replace hg4 := hg4 (h2 4 (by kernel_rfl))
        simp only [hg4] at hK ⊢
        have hgc := cell_of_row wx g 2 #[.int .i64 0, .int .i64 3, .int .i64 0, .int .i64 4] 3 (0, 0) hg3
        simp only [List.getElem?_toArray, List.getElem?_cons_zero, List.getElem?_cons_succ] at hgc
        have hrow := (hx.put.other (w.heap.size + 1) (Array.getElem?_eq_some_iff.1 HB3.out.r1).1 (by omega)).trans HB3.out.r1
        have z0 : wx.cell? ⟨w.heap.size + 1, 0, none⟩ = some (.int .i64 2) := cell_of_row _ _ _ _ _ (0, 0) hrow
        have z1 : wx.cell? ⟨w.heap.size + 1, 1, none⟩ = some (.int .i64 m) := cell_of_row _ _ _ _ _ (0, 0) hrow
        have z2 : wx.cell? ⟨w.heap.size + 1, 2, none⟩ = some (.int .i64 0) := cell_of_row _ _ _ _ _ (0, 0) hrow
        have z3 : wx.cell? ⟨w.heap.size + 1, 3, none⟩ = some (.bool d) := cell_of_row _ _ _ _ _ (0, 0) hrow
        have z4 : wx.cell? ⟨w.heap.size + 1, 4, none⟩ = some (.int .i64 e) := cell_of_row _ _ _ _ _ (0, 0) hrow
        have HH := Lib.hid hx
        have HK2 := Lib.hid hK
        clear hK h1 h2 hx
        go_simp
        first
          | exact HK2.out _ (HH.out.next _ (by decide) (by decide) (by decide) (Below.refl _ _))
      try simp only [Act.put, List.setIfInBounds_toArray, List.set_cons_succ, List.set_cons_zero]
      refine GhostV.walk_const (v := undef) (fun γ => by rfl) ?_ ?_
      · intro γ L wx h1 h2 hx K hK
        exact GL.store hx h1 (by decide) (by decide) (Array.getElem?_eq_some_iff.1 (HB3.out.r2)).1 25 _ _ rfl rfl rfl (by kernel_rfl) rfl (by kernel_rfl) (fun w2 h => hK _ (h _))
      try simp only [Act.put]
      apply GhostV.walk_const (fun γ => by rfl)
      · intro γ L wx h1 h2 hx K hK
        have hrow := (hx.put.other (w.heap.size + 1) (Array.getElem?_eq_some_iff.1 HB3.out.r1).1 (by omega)).trans HB3.out.r1
        have z0 : wx.cell? ⟨w.heap.size + 1, 0, none⟩ = some (.int .i64 2) := cell_of_row _ _ _ _ _ (0, 0) hrow
        have z1 : wx.cell? ⟨w.heap.size + 1, 1, none⟩ = some (.int .i64 m) := cell_of_row _ _ _ _ _ (0, 0) hrow
        have z2 : wx.cell? ⟨w.heap.size + 1, 2, none⟩ = some (.int .i64 0) := cell_of_row _ _ _ _ _ (0, 0) hrow
        have z3 : wx.cell? ⟨w.heap.size + 1, 3, none⟩ = some (.bool d) := cell_of_row _ _ _ _ _ (0, 0) hrow
        have z4 : wx.cell? ⟨w.heap.size + 1, 4, none⟩ = some (.int .i64 e) := cell_of_row _ _ _ _ _ (0, 0) hrow
        have HH := Lib.hid hx
        have HK2 := Lib.hid hK
        clear hK h1 h2 hx
        go_simp
        first
          | exact HK2.out _ (HH.out.next _ (by decide) (by decide) (by decide) (Below.refl _ _))
      try simp only [Act.put, List.setIfInBounds_toArray, List.set_cons_succ, List.set_cons_zero]
      refine GhostV.walk_nil (fun γ L w9 hall hx => ?_)
      have hp9 := hx.put1 (hall 6 (by decide))
      go_wp2_with fail
      exact bodyPost_ret (results_row_tmp Try.results8 _ _ _ _ _ (0, 0) _ rfl hp9.row Try.underlying25 rfl (by kernel_rfl)) rfl (⟨rfl, HB3.out.below.trans (hp9.below (by omega) HB3.out.below.size)⟩)
set_option maxHeartbeats 2000000 in
theorem rstep_c7 (t0 t1 t2 t3 t4 t5 t6 t7 t8 : Int) (b c n : Int) (d : Bool) (e : Int) (bl : Bool) (wt : Bool) (w : World) (hB : Dr.isB ⟨3, b, c, d, e⟩ = true) (hn : Dr.next c = n) :
    Calls Try.prog 8 #[.agg #[.int .i64 t0, .int .i64 t1, .int .i64 t2, .int .i64 t3, .int .i64 t4, .int .i64 t5, .int .i64 t6, .int .i64 t7, .int .i64 t8], .agg #[.int .i64 3, .int .i64 b, .int .i64 c, .bool d, .int .i64 e], .int .i64 2, .bool bl, .bool wt] w fun ee w' => ee = .returned (.tuple #[.agg #[.int .i64 0, .int .i64 0, .int .i64 0, .bool false, .int .i64 0], .int .i64 0]) ∧ Below w.heap.size w w' := by
  have hst := hB
  obtain ⟨-, hb, hc, he⟩ := (Dr.isB_iff (by simp)).1 hst
  simp only at hb hc he
  have F := Lib.hid (fun wx => refIsState_any 3 b c d e wx)
  rw [hB] at F
  by_cases hc0 : 0 < c
  · rw [show Dr.next c = Dr.more c from if_neg (by omega)] at hn
    have FN := Lib.hid (fun wx => refMore_any c wx hc)
    rw [hn] at FN
    clear hst hB hn hb hc he
    have HB0 := Lib.hid (bxs3 w (.cells #[.int .i64 t0, .int .i64 t1, .int .i64 t2, .int .i64 t3, .int .i64 t4, .int .i64 t5, .int .i64 t6, .int .i64 t7, .int .i64 t8] 23) (.cells #[.int .i64 3, .int .i64 b, .int .i64 c, .bool d, .int .i64 e] 25) (.cells #[.int .i64 0, .int .i64 0, .int .i64 0, .bool false, .int .i64 0] 25))
    go_enter Try.func8, Try.ntmps8
    go_wp2_with fail
    refine (F.out _).mono ?_
    rintro e w1 ⟨rfl, hb1⟩
    have HB1 := Lib.hid (HB0.out.next hb1)
    clear hb1 HB0
    have c0_6 : w1.cell? ⟨w.heap.size, 6, none⟩ = some (.int .i64 t6) := cell_of_row _ _ _ _ _ (0, 0) HB1.out.r0
    have c0_7 : w1.cell? ⟨w.heap.size, 7, none⟩ = some (.int .i64 t7) := cell_of_row _ _ _ _ _ (0, 0) HB1.out.r0
    have c1_0 : w1.cell? ⟨w.heap.size + 1, 0, none⟩ = some (.int .i64 3) := cell_of_row _ _ _ _ _ (0, 0) HB1.out.r1
    have c1_1 : w1.cell? ⟨w.heap.size + 1, 1, none⟩ = some (.int .i64 b) := cell_of_row _ _ _ _ _ (0, 0) HB1.out.r1
    have c1_2 : w1.cell? ⟨w.heap.size + 1, 2, none⟩ = some (.int .i64 c) := cell_of_row _ _ _ _ _ (0, 0) HB1.out.r1
    have c1_3 : w1.cell? ⟨w.heap.size + 1, 3, none⟩ = some (.bool d) := cell_of_row _ _ _ _ _ (0, 0) HB1.out.r1
    have c1_4 : w1.cell? ⟨w.heap.size + 1, 4, none⟩ = some (.int .i64 e) := cell_of_row _ _ _ _ _ (0, 0) HB1.out.r1
    go_wp2_with fail
    refine (FN.out _).mono ?_
    rintro e w2 ⟨rfl, hb2⟩
    have HB2 := Lib.hid (HB1.out.next hb2)
    clear c0_6 c0_7 c1_0 c1_1 c1_2 c1_3 c1_4 hb2 HB1
    have c0_6 : w2.cell? ⟨w.heap.size, 6, none⟩ = some (.int .i64 t6) := cell_of_row _ _ _ _ _ (0, 0) HB2.out.r0
    have c0_7 : w2.cell? ⟨w.heap.size, 7, none⟩ = some (.int .i64 t7) := cell_of_row _ _ _ _ _ (0, 0) HB2.out.r0
    have c1_0 : w2.cell? ⟨w.heap.size + 1, 0, none⟩ = some (.int .i64 3) := cell_of_row _ _ _ _ _ (0, 0) HB2.out.r1
    have c1_1 : w2.cell? ⟨w.heap.size + 1, 1, none⟩ = some (.int .i64 b) := cell_of_row _ _ _ _ _ (0, 0) HB2.out.r1
    have c1_2 : w2.cell? ⟨w.heap.size + 1, 2, none⟩ = some (.int .i64 c) := cell_of_row _ _ _ _ _ (0, 0) HB2.out.r1
    have c1_3 : w2.cell? ⟨w.heap.size + 1, 3, none⟩ = some (.bool d) := cell_of_row _ _ _ _ _ (0, 0) HB2.out.r1
    have c1_4 : w2.cell? ⟨w.heap.size + 1, 4, none⟩ = some (.int .i64 e) := cell_of_row _ _ _ _ _ (0, 0) HB2.out.r1
    go_wp2_with (with_reducible show wpList _ _ _ (Oper.mk _ (.store 3 _ _) _ _ _ _ :: _) _ _; refine Hid.out ?_)
    refine Lib.hid ?_
    refine wpList_putCell rfl 3 _ _ rfl (w.heap.size + 1) 2 (.int .i64 n) _ _ 25 rfl rfl HB2.out.r1 (by kernel_rfl) (by simp) rfl rfl rfl ?_
    intro w3 hr3 hg3
    have HB3 : Hid (Bx w [(w.heap.size, .cells #[.int .i64 t0, .int .i64 t1, .int .i64 t2, .int .i64 t3, .int .i64 t4, .int .i64 t5, .int .i64 t6, .int .i64 t7, .int .i64 t8] 23 (0, 0)), (w.heap.size + 1, .cells #[.int .i64 3, .int .i64 b, .int .i64 n, .bool d, .int .i64 e] 25 (0, 0)), (w.heap.size + 2, .cells #[.int .i64 0, .int .i64 0, .int .i64 0, .bool false, .int .i64 0] 25 (0, 0))] w3) := Lib.hid (HB2.out.put (by omega) hg3.out hr3.out (by simp only [List.mem_cons, List.not_mem_nil, or_false]; rintro p (rfl | rfl | rfl) <;> simp <;> omega))
    clear c0_6 c0_7 c1_0 c1_1 c1_2 c1_3 c1_4 hr3 hg3 HB2
    have c0_6 : w3.cell? ⟨w.heap.size, 6, none⟩ = some (.int .i64 t6) := cell_of_row _ _ _ _ _ (0, 0) HB3.out.r0
    have c0_7 : w3.cell? ⟨w.heap.size, 7, none⟩ = some (.int .i64 t7) := cell_of_row _ _ _ _ _ (0, 0) HB3.out.r0
    have c1_0 : w3.cell? ⟨w.heap.size + 1, 0, none⟩ = some (.int .i64 3) := cell_of_row _ _ _ _ _ (0, 0) HB3.out.r1
    have c1_1 : w3.cell? ⟨w.heap.size + 1, 1, none⟩ = some (.int .i64 b) := cell_of_row _ _ _ _ _ (0, 0) HB3.out.r1
    have c1_2 : w3.cell? ⟨w.heap.size + 1, 2, none⟩ = some (.int .i64 n) := cell_of_row _ _ _ _ _ (0, 0) HB3.out.r1
    have c1_3 : w3.cell? ⟨w.heap.size + 1, 3, none⟩ = some (.bool d) := cell_of_row _ _ _ _ _ (0, 0) HB3.out.r1
    have c1_4 : w3.cell? ⟨w.heap.size + 1, 4, none⟩ = some (.int .i64 e) := cell_of_row _ _ _ _ _ (0, 0) HB3.out.r1
    go_wp2_with (with_reducible show wpList _ _ _ (Oper.mk _ (.store 25 _ _) _ _ _ _ :: _) _ _; refine Hid.out ?_)
    refine Lib.hid ?_
    refine wpList_put rfl 25 _ _ rfl (w.heap.size + 2) #[.int .i64 0, .int .i64 0, .int .i64 0, .bool false, .int .i64 0] _ 25 rfl rfl HB3.out.r2 (by kernel_rfl) rfl (by kernel_rfl) ?_
    intro w4 hr4 hg4
    have HB4 : Hid (Bx w [(w.heap.size, .cells #[.int .i64 t0, .int .i64 t1, .int .i64 t2, .int .i64 t3, .int .i64 t4, .int .i64 t5, .int .i64 t6, .int .i64 t7, .int .i64 t8] 23 (0, 0)), (w.heap.size + 1, .cells #[.int .i64 3, .int .i64 b, .int .i64 n, .bool d, .int .i64 e] 25 (0, 0)), (w.heap.size + 2, .cells #[.int .i64 0, .int .i64 0, .int .i64 0, .bool false, .int .i64 0] 25 (0, 0))] w4) := Lib.hid (HB3.out.put (by omega) hg4.out hr4.out (by simp only [List.mem_cons, List.not_mem_nil, or_false]; rintro p (rfl | rfl | rfl) <;> simp <;> omega))
    clear c0_6 c0_7 c1_0 c1_1 c1_2 c1_3 c1_4 hr4 hg4 HB3
    have c0_6 : w4.cell? ⟨w.heap.size, 6, none⟩ = some (.int .i64 t6) := cell_of_row _ _ _ _ _ (0, 0) HB4.out.r0
    have c0_7 : w4.cell? ⟨w.heap.size, 7, none⟩ = some (.int .i64 t7) := cell_of_row _ _ _ _ _ (0, 0) HB4.out.r0
    have c1_0 : w4.cell? ⟨w.heap.size + 1, 0, none⟩ = some (.int .i64 3) := cell_of_row _ _ _ _ _ (0, 0) HB4.out.r1
    have c1_1 : w4.cell? ⟨w.heap.size + 1, 1, none⟩ = some (.int .i64 b) := cell_of_row _ _ _ _ _ (0, 0) HB4.out.r1
    have c1_2 : w4.cell? ⟨w.heap.size + 1, 2, none⟩ = some (.int .i64 n) := cell_of_row _ _ _ _ _ (0, 0) HB4.out.r1
    have c1_3 : w4.cell? ⟨w.heap.size + 1, 3, none⟩ = some (.bool d) := cell_of_row _ _ _ _ _ (0, 0) HB4.out.r1
    have c1_4 : w4.cell? ⟨w.heap.size + 1, 4, none⟩ = some (.int .i64 e) := cell_of_row _ _ _ _ _ (0, 0) HB4.out.r1
    go_wp2_with fail
    exact bodyPost_ret (results_row_tmp Try.results8 _ _ _ _ _ (0, 0) _ rfl HB4.out.r2 Try.underlying25 rfl (by kernel_rfl)) rfl (⟨rfl, HB4.out.below⟩)
  · obtain rfl : c = 0 := by omega
    obtain rfl : (0 : Int) = n := hn
    clear hst hB hb hc he
    have HB0 := Lib.hid (bxs3 w (.cells #[.int .i64 t0, .int .i64 t1, .int .i64 t2, .int .i64 t3, .int .i64 t4, .int .i64 t5, .int .i64 t6, .int .i64 t7, .int .i64 t8] 23) (.cells #[.int .i64 3, .int .i64 b, .int .i64 0, .bool d, .int .i64 e] 25) (.cells #[.int .i64 0, .int .i64 0, .int .i64 0, .bool false, .int .i64 0] 25))
    go_enter Try.func8, Try.ntmps8
    go_wp2_with fail
    refine (F.out _).mono ?_
    rintro e w1 ⟨rfl, hb1⟩
    have HB1 := Lib.hid (HB0.out.next hb1)
    clear hb1 HB0
    have c0_6 : w1.cell? ⟨w.heap.size, 6, none⟩ = some (.int .i64 t6) := cell_of_row _ _ _ _ _ (0, 0) HB1.out.r0
    have c0_7 : w1.cell? ⟨w.heap.size, 7, none⟩ = some (.int .i64 t7) := cell_of_row _ _ _ _ _ (0, 0) HB1.out.r0
    have c1_0 : w1.cell? ⟨w.heap.size + 1, 0, none⟩ = some (.int .i64 3) := cell_of_row _ _ _ _ _ (0, 0) HB1.out.r1
    have c1_1 : w1.cell? ⟨w.heap.size + 1, 1, none⟩ = some (.int .i64 b) := cell_of_row _ _ _ _ _ (0, 0) HB1.out.r1
    have c1_2 : w1.cell? ⟨w.heap.size + 1, 2, none⟩ = some (.int .i64 0) := cell_of_row _ _ _ _ _ (0, 0) HB1.out.r1
    have c1_3 : w1.cell? ⟨w.heap.size + 1, 3, none⟩ = some (.bool d) := cell_of_row _ _ _ _ _ (0, 0) HB1.out.r1
    have c1_4 : w1.cell? ⟨w.heap.size + 1, 4, none⟩ = some (.int .i64 e) := cell_of_row _ _ _ _ _ (0, 0) HB1.out.r1
    go_wp2_with (with_reducible show wpList _ _ _ (Oper.mk _ (.store 25 _ _) _ _ _ _ :: _) _ _; refine Hid.out ?_)
    refine Lib.hid ?_
    refine wpList_put rfl 25 _ _ rfl (w.heap.size + 2) #[.int .i64 0, .int .i64 0, .int .i64 0, .bool false, .int .i64 0] _ 25 rfl rfl HB1.out.r2 (by kernel_rfl) rfl (by kernel_rfl) ?_
    intro w2 hr2 hg2
    have HB2 : Hid (Bx w [(w.heap.size, .cells #[.int .i64 t0, .int .i64 t1, .int .i64 t2, .int .i64 t3, .int .i64 t4, .int .i64 t5, .int .i64 t6, .int .i64 t7, .int .i64 t8] 23 (0, 0)), (w.heap.size + 1, .cells #[.int .i64 3, .int .i64 b, .int .i64 0, .bool d, .int .i64 e] 25 (0, 0)), (w.heap.size + 2, .cells #[.int .i64 0, .int .i64 0, .int .i64 0, .bool false, .int .i64 0] 25 (0, 0))] w2) := Lib.hid (HB1.out.put (by omega) hg2.out hr2.out (by simp only [List.mem_cons, List.not_mem_nil, or_false]; rintro p (rfl | rfl | rfl) <;> simp <;> omega))
    clear c0_6 c0_7 c1_0 c1_1 c1_2 c1_3 c1_4 hr2 hg2 HB1
    have c0_6 : w2.cell? ⟨w.heap.size, 6, none⟩ = some (.int .i64 t6) := cell_of_row _ _ _ _ _ (0, 0) HB2.out.r0
    have c0_7 : w2.cell? ⟨w.heap.size, 7, none⟩ = some (.int .i64 t7) := cell_of_row _ _ _ _ _ (0, 0) HB2.out.r0
    have c1_0 : w2.cell? ⟨w.heap.size + 1, 0, none⟩ = some (.int .i64 3) := cell_of_row _ _ _ _ _ (0, 0) HB2.out.r1
    have c1_1 : w2.cell? ⟨w.heap.size + 1, 1, none⟩ = some (.int .i64 b) := cell_of_row _ _ _ _ _ (0, 0) HB2.out.r1
    have c1_2 : w2.cell? ⟨w.heap.size + 1, 2, none⟩ = some (.int .i64 0) := cell_of_row _ _ _ _ _ (0, 0) HB2.out.r1
    have c1_3 : w2.cell? ⟨w.heap.size + 1, 3, none⟩ = some (.bool d) := cell_of_row _ _ _ _ _ (0, 0) HB2.out.r1
    have c1_4 : w2.cell? ⟨w.heap.size + 1, 4, none⟩ = some (.int .i64 e) := cell_of_row _ _ _ _ _ (0, 0) HB2.out.r1
    go_wp2_with fail
    exact bodyPost_ret (results_row_tmp Try.results8 _ _ _ _ _ (0, 0) _ rfl HB2.out.r2 Try.underlying25 rfl (by kernel_rfl)) rfl (⟨rfl, HB2.out.below⟩)
set_option maxHeartbeats 2000000 in
theorem rstep_c8 (t0 t1 t2 t3 t4 t5 t6 t7 t8 : Int) (b c n : Int) (e : Int) (k : Int) (bl : Bool) (wt : Bool) (w : World) (hB : Dr.isB ⟨3, b, c, true, e⟩ = true) (hn : Dr.next c = n) (hd : ¬ k = 2) (hl : t7 < n) :
    Calls Try.prog 8 #[.agg #[.int .i64 t0, .int .i64 t1, .int .i64 t2, .int .i64 t3, .int .i64 t4, .int .i64 t5, .int .i64 t6, .int .i64 t7, .int .i64 t8], .agg #[.int .i64 3, .int .i64 b, .int .i64 c, .bool true, .int .i64 e], .int .i64 k, .bool bl, .bool wt] w fun ee w' => ee = .returned (.tuple #[.agg #[.int .i64 3, .int .i64 (Dr.more b), .int .i64 n, .bool true, .int .i64 e], .int .i64 5]) ∧ Below w.heap.size w w' := by
  have hst := hB
  obtain ⟨-, hb, hc, he⟩ := (Dr.isB_iff (by simp)).1 hst
  simp only at hb hc he
  have F := Lib.hid (fun wx => refIsState_any 3 b c true e wx)
  rw [hB] at F
  by_cases hc0 : 0 < c
  · rw [show Dr.next c = Dr.more c from if_neg (by omega)] at hn
    have FN := Lib.hid (fun wx => refMore_any c wx hc)
    rw [hn] at FN
    have FD := Lib.hid (fun wx => refNudged_same b n e wx hb)
    generalize Dr.more b = m at *
    clear hst hB hn hb hc he
    have HB0 := Lib.hid (bxs3 w (.cells #[.int .i64 t0, .int .i64 t1, .int .i64 t2, .int .i64 t3, .int .i64 t4, .int .i64 t5, .int .i64 t6, .int .i64 t7, .int .i64 t8] 23) (.cells #[.int .i64 3, .int .i64 b, .int .i64 c, .bool true, .int .i64 e] 25) (.cells #[.int .i64 0, .int .i64 0, .int .i64 0, .bool false, .int .i64 0] 25))
    go_enter Try.func8, Try.ntmps8
    go_wp2_with fail
    refine (F.out _).mono ?_
    rintro e w1 ⟨rfl, hb1⟩
    have HB1 := Lib.hid (HB0.out.next hb1)
    clear hb1 HB0
    have c0_6 : w1.cell? ⟨w.heap.size, 6, none⟩ = some (.int .i64 t6) := cell_of_row _ _ _ _ _ (0, 0) HB1.out.r0
    have c0_7 : w1.cell? ⟨w.heap.size, 7, none⟩ = some (.int .i64 t7) := cell_of_row _ _ _ _ _ (0, 0) HB1.out.r0
    have c1_0 : w1.cell? ⟨w.heap.size + 1, 0, none⟩ = some (.int .i64 3) := cell_of_row _ _ _ _ _ (0, 0) HB1.out.r1
    have c1_1 : w1.cell? ⟨w.heap.size + 1, 1, none⟩ = some (.int .i64 b) := cell_of_row _ _ _ _ _ (0, 0) HB1.out.r1
    have c1_2 : w1.cell? ⟨w.heap.size + 1, 2, none⟩ = some (.int .i64 c) := cell_of_row _ _ _ _ _ (0, 0) HB1.out.r1
    have c1_3 : w1.cell? ⟨w.heap.size + 1, 3, none⟩ = some (.bool true) := cell_of_row _ _ _ _ _ (0, 0) HB1.out.r1
    have c1_4 : w1.cell? ⟨w.heap.size + 1, 4, none⟩ = some (.int .i64 e) := cell_of_row _ _ _ _ _ (0, 0) HB1.out.r1
    go_wp2_with fail
    refine (FN.out _).mono ?_
    rintro e w2 ⟨rfl, hb2⟩
    have HB2 := Lib.hid (HB1.out.next hb2)
    clear c0_6 c0_7 c1_0 c1_1 c1_2 c1_3 c1_4 hb2 HB1
    have c0_6 : w2.cell? ⟨w.heap.size, 6, none⟩ = some (.int .i64 t6) := cell_of_row _ _ _ _ _ (0, 0) HB2.out.r0
    have c0_7 : w2.cell? ⟨w.heap.size, 7, none⟩ = some (.int .i64 t7) := cell_of_row _ _ _ _ _ (0, 0) HB2.out.r0
    have c1_0 : w2.cell? ⟨w.heap.size + 1, 0, none⟩ = some (.int .i64 3) := cell_of_row _ _ _ _ _ (0, 0) HB2.out.r1
    have c1_1 : w2.cell? ⟨w.heap.size + 1, 1, none⟩ = some (.int .i64 b) := cell_of_row _ _ _ _ _ (0, 0) HB2.out.r1
    have c1_2 : w2.cell? ⟨w.heap.size + 1, 2, none⟩ = some (.int .i64 c) := cell_of_row _ _ _ _ _ (0, 0) HB2.out.r1
    have c1_3 : w2.cell? ⟨w.heap.size + 1, 3, none⟩ = some (.bool true) := cell_of_row _ _ _ _ _ (0, 0) HB2.out.r1
    have c1_4 : w2.cell? ⟨w.heap.size + 1, 4, none⟩ = some (.int .i64 e) := cell_of_row _ _ _ _ _ (0, 0) HB2.out.r1
    go_wp2_with (with_reducible show wpList _ _ _ (Oper.mk _ (.store 3 _ _) _ _ _ _ :: _) _ _; refine Hid.out ?_)
    refine Lib.hid ?_
    refine wpList_putCell rfl 3 _ _ rfl (w.heap.size + 1) 2 (.int .i64 n) _ _ 25 rfl rfl HB2.out.r1 (by kernel_rfl) (by simp) rfl rfl rfl ?_
    intro w3 hr3 hg3
    have HB3 : Hid (Bx w [(w.heap.size, .cells #[.int .i64 t0, .int .i64 t1, .int .i64 t2, .int .i64 t3, .int .i64 t4, .int .i64 t5, .int .i64 t6, .int .i64 t7, .int .i64 t8] 23 (0, 0)), (w.heap.size + 1, .cells #[.int .i64 3, .int .i64 b, .int .i64 n, .bool true, .int .i64 e] 25 (0, 0)), (w.heap.size + 2, .cells #[.int .i64 0, .int .i64 0, .int .i64 0, .bool false, .int .i64 0] 25 (0, 0))] w3) := Lib.hid (HB2.out.put (by omega) hg3.out hr3.out (by simp only [List.mem_cons, List.not_mem_nil, or_false]; rintro p (rfl | rfl | rfl) <;> simp <;> omega))
    clear c0_6 c0_7 c1_0 c1_1 c1_2 c1_3 c1_4 hr3 hg3 HB2
    have c0_6 : w3.cell? ⟨w.heap.size, 6, none⟩ = some (.int .i64 t6) := cell_of_row _ _ _ _ _ (0, 0) HB3.out.r0
    have c0_7 : w3.cell? ⟨w.heap.size, 7, none⟩ = some (.int .i64 t7) := cell_of_row _ _ _ _ _ (0, 0) HB3.out.r0
    have c1_0 : w3.cell? ⟨w.heap.size + 1, 0, none⟩ = some (.int .i64 3) := cell_of_row _ _ _ _ _ (0, 0) HB3.out.r1
    have c1_1 : w3.cell? ⟨w.heap.size + 1, 1, none⟩ = some (.int .i64 b) := cell_of_row _ _ _ _ _ (0, 0) HB3.out.r1
    have c1_2 : w3.cell? ⟨w.heap.size + 1, 2, none⟩ = some (.int .i64 n) := cell_of_row _ _ _ _ _ (0, 0) HB3.out.r1
    have c1_3 : w3.cell? ⟨w.heap.size + 1, 3, none⟩ = some (.bool true) := cell_of_row _ _ _ _ _ (0, 0) HB3.out.r1
    have c1_4 : w3.cell? ⟨w.heap.size + 1, 4, none⟩ = some (.int .i64 e) := cell_of_row _ _ _ _ _ (0, 0) HB3.out.r1
    go_wp2_with fail
    refine (FD.out _).mono ?_
    rintro e w4 ⟨rfl, hb4⟩
    have HB4 := Lib.hid (HB3.out.next hb4)
    clear c0_6 c0_7 c1_0 c1_1 c1_2 c1_3 c1_4 hb4 HB3
    have c0_6 : w4.cell? ⟨w.heap.size, 6, none⟩ = some (.int .i64 t6) := cell_of_row _ _ _ _ _ (0, 0) HB4.out.r0
    have c0_7 : w4.cell? ⟨w.heap.size, 7, none⟩ = some (.int .i64 t7) := cell_of_row _ _ _ _ _ (0, 0) HB4.out.r0
    have c1_0 : w4.cell? ⟨w.heap.size + 1, 0, none⟩ = some (.int .i64 3) := cell_of_row _ _ _ _ _ (0, 0) HB4.out.r1
    have c1_1 : w4.cell? ⟨w.heap.size + 1, 1, none⟩ = some (.int .i64 b) := cell_of_row _ _ _ _ _ (0, 0) HB4.out.r1
    have c1_2 : w4.cell? ⟨w.heap.size + 1, 2, none⟩ = some (.int .i64 n) := cell_of_row _ _ _ _ _ (0, 0) HB4.out.r1
    have c1_3 : w4.cell? ⟨w.heap.size + 1, 3, none⟩ = some (.bool true) := cell_of_row _ _ _ _ _ (0, 0) HB4.out.r1
    have c1_4 : w4.cell? ⟨w.heap.size + 1, 4, none⟩ = some (.int .i64 e) := cell_of_row _ _ _ _ _ (0, 0) HB4.out.r1
    go_wp2_with (with_reducible show wpList _ _ _ (Oper.mk _ (.store 25 _ _) _ _ _ _ :: _) _ _; refine Hid.out ?_)
    refine Lib.hid ?_
    refine wpList_put rfl 25 _ _ rfl (w.heap.size + 2) #[.int .i64 3, .int .i64 m, .int .i64 n, .bool true, .int .i64 e] _ 25 rfl rfl HB4.out.r2 (by kernel_rfl) rfl (by kernel_rfl) ?_
    intro w5 hr5 hg5
    have HB5 : Hid (Bx w [(w.heap.size, .cells #[.int .i64 t0, .int .i64 t1, .int .i64 t2, .int .i64 t3, .int .i64 t4, .int .i64 t5, .int .i64 t6, .int .i64 t7, .int .i64 t8] 23 (0, 0)), (w.heap.size + 1, .cells #[.int .i64 3, .int .i64 b, .int .i64 n, .bool true, .int .i64 e] 25 (0, 0)), (w.heap.size + 2, .cells #[.int .i64 3, .int .i64 m, .int .i64 n, .bool true, .int .i64 e] 25 (0, 0))] w5) := Lib.hid (HB4.out.put (by omega) hg5.out hr5.out (by simp only [List.mem_cons, List.not_mem_nil, or_false]; rintro p (rfl | rfl | rfl) <;> simp <;> omega))
    clear c0_6 c0_7 c1_0 c1_1 c1_2 c1_3 c1_4 hr5 hg5 HB4
    have c0_6 : w5.cell? ⟨w.heap.size, 6, none⟩ = some (.int .i64 t6) := cell_of_row _ _ _ _ _ (0, 0) HB5.out.r0
    have c0_7 : w5.cell? ⟨w.heap.size, 7, none⟩ = some (.int .i64 t7) := cell_of_row _ _ _ _ _ (0, 0) HB5.out.r0
    have c1_0 : w5.cell? ⟨w.heap.size + 1, 0, none⟩ = some (.int .i64 3) := cell_of_row _ _ _ _ _ (0, 0) HB5.out.r1
    have c1_1 : w5.cell? ⟨w.heap.size + 1, 1, none⟩ = some (.int .i64 b) := cell_of_row _ _ _ _ _ (0, 0) HB5.out.r1
    have c1_2 : w5.cell? ⟨w.heap.size + 1, 2, none⟩ = some (.int .i64 n) := cell_of_row _ _ _ _ _ (0, 0) HB5.out.r1
    have c1_3 : w5.cell? ⟨w.heap.size + 1, 3, none⟩ = some (.bool true) := cell_of_row _ _ _ _ _ (0, 0) HB5.out.r1
    have c1_4 : w5.cell? ⟨w.heap.size + 1, 4, none⟩ = some (.int .i64 e) := cell_of_row _ _ _ _ _ (0, 0) HB5.out.r1
    go_wp2_with fail
    exact bodyPost_ret (results_row_tmp Try.results8 _ _ _ _ _ (0, 0) _ rfl HB5.out.r2 Try.underlying25 rfl (by kernel_rfl)) rfl (⟨rfl, HB5.out.below⟩)
  · obtain rfl : c = 0 := by omega
    obtain rfl : (0 : Int) = n := hn
    have FD := Lib.hid (fun wx => refNudged_same b 0 e wx hb)
    generalize Dr.more b = m at *
    clear hst hB hb hc he
    have HB0 := Lib.hid (bxs3 w (.cells #[.int .i64 t0, .int .i64 t1, .int .i64 t2, .int .i64 t3, .int .i64 t4, .int .i64 t5, .int .i64 t6, .int .i64 t7, .int .i64 t8] 23) (.cells #[.int .i64 3, .int .i64 b, .int .i64 0, .bool true, .int .i64 e] 25) (.cells #[.int .i64 0, .int .i64 0, .int .i64 0, .bool false, .int .i64 0] 25))
    go_enter Try.func8, Try.ntmps8
    go_wp2_with fail
    refine (F.out _).mono ?_
    rintro e w1 ⟨rfl, hb1⟩
    have HB1 := Lib.hid (HB0.out.next hb1)
    clear hb1 HB0
    have c0_6 : w1.cell? ⟨w.heap.size, 6, none⟩ = some (.int .i64 t6) := cell_of_row _ _ _ _ _ (0, 0) HB1.out.r0
    have c0_7 : w1.cell? ⟨w.heap.size, 7, none⟩ = some (.int .i64 t7) := cell_of_row _ _ _ _ _ (0, 0) HB1.out.r0
    have c1_0 : w1.cell? ⟨w.heap.size + 1, 0, none⟩ = some (.int .i64 3) := cell_of_row _ _ _ _ _ (0, 0) HB1.out.r1
    have c1_1 : w1.cell? ⟨w.heap.size + 1, 1, none⟩ = some (.int .i64 b) := cell_of_row _ _ _ _ _ (0, 0) HB1.out.r1
    have c1_2 : w1.cell? ⟨w.heap.size + 1, 2, none⟩ = some (.int .i64 0) := cell_of_row _ _ _ _ _ (0, 0) HB1.out.r1
    have c1_3 : w1.cell? ⟨w.heap.size + 1, 3, none⟩ = some (.bool true) := cell_of_row _ _ _ _ _ (0, 0) HB1.out.r1
    have c1_4 : w1.cell? ⟨w.heap.size + 1, 4, none⟩ = some (.int .i64 e) := cell_of_row _ _ _ _ _ (0, 0) HB1.out.r1
    go_wp2_with fail
    refine (FD.out _).mono ?_
    rintro e w2 ⟨rfl, hb2⟩
    have HB2 := Lib.hid (HB1.out.next hb2)
    clear c0_6 c0_7 c1_0 c1_1 c1_2 c1_3 c1_4 hb2 HB1
    have c0_6 : w2.cell? ⟨w.heap.size, 6, none⟩ = some (.int .i64 t6) := cell_of_row _ _ _ _ _ (0, 0) HB2.out.r0
    have c0_7 : w2.cell? ⟨w.heap.size, 7, none⟩ = some (.int .i64 t7) := cell_of_row _ _ _ _ _ (0, 0) HB2.out.r0
    have c1_0 : w2.cell? ⟨w.heap.size + 1, 0, none⟩ = some (.int .i64 3) := cell_of_row _ _ _ _ _ (0, 0) HB2.out.r1
    have c1_1 : w2.cell? ⟨w.heap.size + 1, 1, none⟩ = some (.int .i64 b) := cell_of_row _ _ _ _ _ (0, 0) HB2.out.r1
    have c1_2 : w2.cell? ⟨w.heap.size + 1, 2, none⟩ = some (.int .i64 0) := cell_of_row _ _ _ _ _ (0, 0) HB2.out.r1
    have c1_3 : w2.cell? ⟨w.heap.size + 1, 3, none⟩ = some (.bool true) := cell_of_row _ _ _ _ _ (0, 0) HB2.out.r1
    have c1_4 : w2.cell? ⟨w.heap.size + 1, 4, none⟩ = some (.int .i64 e) := cell_of_row _ _ _ _ _ (0, 0) HB2.out.r1
    go_wp2_with (with_reducible show wpList _ _ _ (Oper.mk _ (.store 25 _ _) _ _ _ _ :: _) _ _; refine Hid.out ?_)
    refine Lib.hid ?_
    refine wpList_put rfl 25 _ _ rfl (w.heap.size + 2) #[.int .i64 3, .int .i64 m, .int .i64 0, .bool true, .int .i64 e] _ 25 rfl rfl HB2.out.r2 (by kernel_rfl) rfl (by kernel_rfl) ?_
    intro w3 hr3 hg3
    have HB3 : Hid (Bx w [(w.heap.size, .cells #[.int .i64 t0, .int .i64 t1, .int .i64 t2, .int .i64 t3, .int .i64 t4, .int .i64 t5, .int .i64 t6, .int .i64 t7, .int .i64 t8] 23 (0, 0)), (w.heap.size + 1, .cells #[.int .i64 3, .int .i64 b, .int .i64 0, .bool true, .int .i64 e] 25 (0, 0)), (w.heap.size + 2, .cells #[.int .i64 3, .int .i64 m, .int .i64 0, .bool true, .int .i64 e] 25 (0, 0))] w3) := Lib.hid (HB2.out.put (by omega) hg3.out hr3.out (by simp only [List.mem_cons, List.not_mem_nil, or_false]; rintro p (rfl | rfl | rfl) <;> simp <;> omega))
    clear c0_6 c0_7 c1_0 c1_1 c1_2 c1_3 c1_4 hr3 hg3 HB2
    have c0_6 : w3.cell? ⟨w.heap.size, 6, none⟩ = some (.int .i64 t6) := cell_of_row _ _ _ _ _ (0, 0) HB3.out.r0
    have c0_7 : w3.cell? ⟨w.heap.size, 7, none⟩ = some (.int .i64 t7) := cell_of_row _ _ _ _ _ (0, 0) HB3.out.r0
    have c1_0 : w3.cell? ⟨w.heap.size + 1, 0, none⟩ = some (.int .i64 3) := cell_of_row _ _ _ _ _ (0, 0) HB3.out.r1
    have c1_1 : w3.cell? ⟨w.heap.size + 1, 1, none⟩ = some (.int .i64 b) := cell_of_row _ _ _ _ _ (0, 0) HB3.out.r1
    have c1_2 : w3.cell? ⟨w.heap.size + 1, 2, none⟩ = some (.int .i64 0) := cell_of_row _ _ _ _ _ (0, 0) HB3.out.r1
    have c1_3 : w3.cell? ⟨w.heap.size + 1, 3, none⟩ = some (.bool true) := cell_of_row _ _ _ _ _ (0, 0) HB3.out.r1
    have c1_4 : w3.cell? ⟨w.heap.size + 1, 4, none⟩ = some (.int .i64 e) := cell_of_row _ _ _ _ _ (0, 0) HB3.out.r1
    go_wp2_with fail
    exact bodyPost_ret (results_row_tmp Try.results8 _ _ _ _ _ (0, 0) _ rfl HB3.out.r2 Try.underlying25 rfl (by kernel_rfl)) rfl (⟨rfl, HB3.out.below⟩)
set_option maxHeartbeats 2000000 in
theorem rstep_c9 (t0 t1 t2 t3 t4 t5 t6 t7 t8 : Int) (b c n : Int) (e : Int) (k : Int) (bl : Bool) (wt : Bool) (w : World) (hB : Dr.isB ⟨3, b, c, false, e⟩ = true) (hn : Dr.next c = n) (hd : ¬ k = 2) (hl : t7 < n) :
    Calls Try.prog 8 #[.agg #[.int .i64 t0, .int .i64 t1, .int .i64 t2, .int .i64 t3, .int .i64 t4, .int .i64 t5, .int .i64 t6, .int .i64 t7, .int .i64 t8], .agg #[.int .i64 3, .int .i64 b, .int .i64 c, .bool false, .int .i64 e], .int .i64 k, .bool bl, .bool wt] w fun ee w' => ee = .returned (.tuple #[.agg #[.int .i64 3, .int .i64 0, .int .i64 n, .bool true, .int .i64 e], .int .i64 5]) ∧ Below w.heap.size w w' := by
  have hst := hB
  obtain ⟨-, hb, hc, he⟩ := (Dr.isB_iff (by simp)).1 hst
  simp only at hb hc he
  have F := Lib.hid (fun wx => refIsState_any 3 b c false e wx)
  rw [hB] at F
  by_cases hc0 : 0 < c
  · rw [show Dr.next c = Dr.more c from if_neg (by omega)] at hn
    have FN := Lib.hid (fun wx => refMore_any c wx hc)
    rw [hn] at FN
    have FD := Lib.hid (fun wx => refNudged_new 3 b n false e wx (by simp))
    clear hst hB hn hb hc he
    have HB0 := Lib.hid (bxs3 w (.cells #[.int .i64 t0, .int .i64 t1, .int .i64 t2, .int .i64 t3, .int .i64 t4, .int .i64 t5, .int .i64 t6, .int .i64 t7, .int .i64 t8] 23) (.cells #[.int .i64 3, .int .i64 b, .int .i64 c, .bool false, .int .i64 e] 25) (.cells #[.int .i64 0, .int .i64 0, .int .i64 0, .bool false, .int .i64 0] 25))
    go_enter Try.func8, Try.ntmps8
    go_wp2_with fail
    refine (F.out _).mono ?_
    rintro e w1 ⟨rfl, hb1⟩
    have HB1 := Lib.hid (HB0.out.next hb1)
    clear hb1 HB0
    have c0_6 : w1.cell? ⟨w.heap.size, 6, none⟩ = some (.int .i64 t6) := cell_of_row _ _ _ _ _ (0, 0) HB1.out.r0
    have c0_7 : w1.cell? ⟨w.heap.size, 7, none⟩ = some (.int .i64 t7) := cell_of_row _ _ _ _ _ (0, 0) HB1.out.r0
    have c1_0 : w1.cell? ⟨w.heap.size + 1, 0, none⟩ = some (.int .i64 3) := cell_of_row _ _ _ _ _ (0, 0) HB1.out.r1
    have c1_1 : w1.cell? ⟨w.heap.size + 1, 1, none⟩ = some (.int .i64 b) := cell_of_row _ _ _ _ _ (0, 0) HB1.out.r1
    have c1_2 : w1.cell? ⟨w.heap.size + 1, 2, none⟩ = some (.int .i64 c) := cell_of_row _ _ _ _ _ (0, 0) HB1.out.r1
    have c1_3 : w1.cell? ⟨w.heap.size + 1, 3, none⟩ = some (.bool false) := cell_of_row _ _ _ _ _ (0, 0) HB1.out.r1
    have c1_4 : w1.cell? ⟨w.heap.size + 1, 4, none⟩ = some (.int .i64 e) := cell_of_row _ _ _ _ _ (0, 0) HB1.out.r1
    go_wp2_with fail
    refine (FN.out _).mono ?_
    rintro e w2 ⟨rfl, hb2⟩
    have HB2 := Lib.hid (HB1.out.next hb2)
    clear c0_6 c0_7 c1_0 c1_1 c1_2 c1_3 c1_4 hb2 HB1
    have c0_6 : w2.cell? ⟨w.heap.size, 6, none⟩ = some (.int .i64 t6) := cell_of_row _ _ _ _ _ (0, 0) HB2.out.r0
    have c0_7 : w2.cell? ⟨w.heap.size, 7, none⟩ = some (.int .i64 t7) := cell_of_row _ _ _ _ _ (0, 0) HB2.out.r0
    have c1_0 : w2.cell? ⟨w.heap.size + 1, 0, none⟩ = some (.int .i64 3) := cell_of_row _ _ _ _ _ (0, 0) HB2.out.r1
    have c1_1 : w2.cell? ⟨w.heap.size + 1, 1, none⟩ = some (.int .i64 b) := cell_of_row _ _ _ _ _ (0, 0) HB2.out.r1
    have c1_2 : w2.cell? ⟨w.heap.size + 1, 2, none⟩ = some (.int .i64 c) := cell_of_row _ _ _ _ _ (0, 0) HB2.out.r1
    have c1_3 : w2.cell? ⟨w.heap.size + 1, 3, none⟩ = some (.bool false) := cell_of_row _ _ _ _ _ (0, 0) HB2.out.r1
    have c1_4 : w2.cell? ⟨w.heap.size + 1, 4, none⟩ = some (.int .i64 e) := cell_of_row _ _ _ _ _ (0, 0) HB2.out.r1
    go_wp2_with (with_reducible show wpList _ _ _ (Oper.mk _ (.store 3 _ _) _ _ _ _ :: _) _ _; refine Hid.out ?_)
    refine Lib.hid ?_
    refine wpList_putCell rfl 3 _ _ rfl (w.heap.size + 1) 2 (.int .i64 n) _ _ 25 rfl rfl HB2.out.r1 (by kernel_rfl) (by simp) rfl rfl rfl ?_
    intro w3 hr3 hg3
    have HB3 : Hid (Bx w [(w.heap.size, .cells #[.int .i64 t0, .int .i64 t1, .int .i64 t2, .int .i64 t3, .int .i64 t4, .int .i64 t5, .int .i64 t6, .int .i64 t7, .int .i64 t8] 23 (0, 0)), (w.heap.size + 1, .cells #[.int .i64 3, .int .i64 b, .int .i64 n, .bool false, .int .i64 e] 25 (0, 0)), (w.heap.size + 2, .cells #[.int .i64 0, .int .i64 0, .int .i64 0, .bool false, .int .i64 0] 25 (0, 0))] w3) := Lib.hid (HB2.out.put (by omega) hg3.out hr3.out (by simp only [List.mem_cons, List.not_mem_nil, or_false]; rintro p (rfl | rfl | rfl) <;> simp <;> omega))
    clear c0_6 c0_7 c1_0 c1_1 c1_2 c1_3 c1_4 hr3 hg3 HB2
    have c0_6 : w3.cell? ⟨w.heap.size, 6, none⟩ = some (.int .i64 t6) := cell_of_row _ _ _ _ _ (0, 0) HB3.out.r0
    have c0_7 : w3.cell? ⟨w.heap.size, 7, none⟩ = some (.int .i64 t7) := cell_of_row _ _ _ _ _ (0, 0) HB3.out.r0
    have c1_0 : w3.cell? ⟨w.heap.size + 1, 0, none⟩ = some (.int .i64 3) := cell_of_row _ _ _ _ _ (0, 0) HB3.out.r1
    have c1_1 : w3.cell? ⟨w.heap.size + 1, 1, none⟩ = some (.int .i64 b) := cell_of_row _ _ _ _ _ (0, 0) HB3.out.r1
    have c1_2 : w3.cell? ⟨w.heap.size + 1, 2, none⟩ = some (.int .i64 n) := cell_of_row _ _ _ _ _ (0, 0) HB3.out.r1
    have c1_3 : w3.cell? ⟨w.heap.size + 1, 3, none⟩ = some (.bool false) := cell_of_row _ _ _ _ _ (0, 0) HB3.out.r1
    have c1_4 : w3.cell? ⟨w.heap.size + 1, 4, none⟩ = some (.int .i64 e) := cell_of_row _ _ _ _ _ (0, 0) HB3.out.r1
    go_wp2_with fail
    refine (FD.out _).mono ?_
    rintro e w4 ⟨rfl, hb4⟩
    have HB4 := Lib.hid (HB3.out.next hb4)
    clear c0_6 c0_7 c1_0 c1_1 c1_2 c1_3 c1_4 hb4 HB3
    have c0_6 : w4.cell? ⟨w.heap.size, 6, none⟩ = some (.int .i64 t6) := cell_of_row _ _ _ _ _ (0, 0) HB4.out.r0
    have c0_7 : w4.cell? ⟨w.heap.size, 7, none⟩ = some (.int .i64 t7) := cell_of_row _ _ _ _ _ (0, 0) HB4.out.r0
    have c1_0 : w4.cell? ⟨w.heap.size + 1, 0, none⟩ = some (.int .i64 3) := cell_of_row _ _ _ _ _ (0, 0) HB4.out.r1
    have c1_1 : w4.cell? ⟨w.heap.size + 1, 1, none⟩ = some (.int .i64 b) := cell_of_row _ _ _ _ _ (0, 0) HB4.out.r1
    have c1_2 : w4.cell? ⟨w.heap.size + 1, 2, none⟩ = some (.int .i64 n) := cell_of_row _ _ _ _ _ (0, 0) HB4.out.r1
    have c1_3 : w4.cell? ⟨w.heap.size + 1, 3, none⟩ = some (.bool false) := cell_of_row _ _ _ _ _ (0, 0) HB4.out.r1
    have c1_4 : w4.cell? ⟨w.heap.size + 1, 4, none⟩ = some (.int .i64 e) := cell_of_row _ _ _ _ _ (0, 0) HB4.out.r1
    go_wp2_with (with_reducible show wpList _ _ _ (Oper.mk _ (.store 25 _ _) _ _ _ _ :: _) _ _; refine Hid.out ?_)
    refine Lib.hid ?_
    refine wpList_put rfl 25 _ _ rfl (w.heap.size + 2) #[.int .i64 3, .int .i64 0, .int .i64 n, .bool true, .int .i64 e] _ 25 rfl rfl HB4.out.r2 (by kernel_rfl) rfl (by kernel_rfl) ?_
    intro w5 hr5 hg5
    have HB5 : Hid (Bx w [(w.heap.size, .cells #[.int .i64 t0, .int .i64 t1, .int .i64 t2, .int .i64 t3, .int .i64 t4, .int .i64 t5, .int .i64 t6, .int .i64 t7, .int .i64 t8] 23 (0, 0)), (w.heap.size + 1, .cells #[.int .i64 3, .int .i64 b, .int .i64 n, .bool false, .int .i64 e] 25 (0, 0)), (w.heap.size + 2, .cells #[.int .i64 3, .int .i64 0, .int .i64 n, .bool true, .int .i64 e] 25 (0, 0))] w5) := Lib.hid (HB4.out.put (by omega) hg5.out hr5.out (by simp only [List.mem_cons, List.not_mem_nil, or_false]; rintro p (rfl | rfl | rfl) <;> simp <;> omega))
    clear c0_6 c0_7 c1_0 c1_1 c1_2 c1_3 c1_4 hr5 hg5 HB4
    have c0_6 : w5.cell? ⟨w.heap.size, 6, none⟩ = some (.int .i64 t6) := cell_of_row _ _ _ _ _ (0, 0) HB5.out.r0
    have c0_7 : w5.cell? ⟨w.heap.size, 7, none⟩ = some (.int .i64 t7) := cell_of_row _ _ _ _ _ (0, 0) HB5.out.r0
    have c1_0 : w5.cell? ⟨w.heap.size + 1, 0, none⟩ = some (.int .i64 3) := cell_of_row _ _ _ _ _ (0, 0) HB5.out.r1
    have c1_1 : w5.cell? ⟨w.heap.size + 1, 1, none⟩ = some (.int .i64 b) := cell_of_row _ _ _ _ _ (0, 0) HB5.out.r1
    have c1_2 : w5.cell? ⟨w.heap.size + 1, 2, none⟩ = some (.int .i64 n) := cell_of_row _ _ _ _ _ (0, 0) HB5.out.r1
    have c1_3 : w5.cell? ⟨w.heap.size + 1, 3, none⟩ = some (.bool false) := cell_of_row _ _ _ _ _ (0, 0) HB5.out.r1
    have c1_4 : w5.cell? ⟨w.heap.size + 1, 4, none⟩ = some (.int .i64 e) := cell_of_row _ _ _ _ _ (0, 0) HB5.out.r1
    go_wp2_with fail
    exact bodyPost_ret (results_row_tmp Try.results8 _ _ _ _ _ (0, 0) _ rfl HB5.out.r2 Try.underlying25 rfl (by kernel_rfl)) rfl (⟨rfl, HB5.out.below⟩)
  · obtain rfl : c = 0 := by omega
    obtain rfl : (0 : Int) = n := hn
    have FD := Lib.hid (fun wx => refNudged_new 3 b 0 false e wx (by simp))
    clear hst hB hb hc he
    have HB0 := Lib.hid (bxs3 w (.cells #[.int .i64 t0, .int .i64 t1, .int .i64 t2, .int .i64 t3, .int .i64 t4, .int .i64 t5, .int .i64 t6, .int .i64 t7, .int .i64 t8] 23) (.cells #[.int .i64 3, .int .i64 b, .int .i64 0, .bool false, .int .i64 e] 25) (.cells #[.int .i64 0, .int .i64 0, .int .i64 0, .bool false, .int .i64 0] 25))
    go_enter Try.func8, Try.ntmps8
    go_wp2_with fail
    refine (F.out _).mono ?_
    rintro e w1 ⟨rfl, hb1⟩
    have HB1 := Lib.hid (HB0.out.next hb1)
    clear hb1 HB0
    have c0_6 : w1.cell? ⟨w.heap.size, 6, none⟩ = some (.int .i64 t6) := cell_of_row _ _ _ _ _ (0, 0) HB1.out.r0
    have c0_7 : w1.cell? ⟨w.heap.size, 7, none⟩ = some (.int .i64 t7) := cell_of_row _ _ _ _ _ (0, 0) HB1.out.r0
    have c1_0 : w1.cell? ⟨w.heap.size + 1, 0, none⟩ = some (.int .i64 3) := cell_of_row _ _ _ _ _ (0, 0) HB1.out.r1
    have c1_1 : w1.cell? ⟨w.heap.size + 1, 1, none⟩ = some (.int .i64 b) := cell_of_row _ _ _ _ _ (0, 0) HB1.out.r1
    have c1_2 : w1.cell? ⟨w.heap.size + 1, 2, none⟩ = some (.int .i64 0) := cell_of_row _ _ _ _ _ (0, 0) HB1.out.r1
    have c1_3 : w1.cell? ⟨w.heap.size + 1, 3, none⟩ = some (.bool false) := cell_of_row _ _ _ _ _ (0, 0) HB1.out.r1
    have c1_4 : w1.cell? ⟨w.heap.size + 1, 4, none⟩ = some (.int .i64 e) := cell_of_row _ _ _ _ _ (0, 0) HB1.out.r1
    go_wp2_with fail
    refine (FD.out _).mono ?_
    rintro e w2 ⟨rfl, hb2⟩
    have HB2 := Lib.hid (HB1.out.next hb2)
    clear c0_6 c0_7 c1_0 c1_1 c1_2 c1_3 c1_4 hb2 HB1
    have c0_6 : w2.cell? ⟨w.heap.size, 6, none⟩ = some (.int .i64 t6) := cell_of_row _ _ _ _ _ (0, 0) HB2.out.r0
    have c0_7 : w2.cell? ⟨w.heap.size, 7, none⟩ = some (.int .i64 t7) := cell_of_row _ _ _ _ _ (0, 0) HB2.out.r0
    have c1_0 : w2.cell? ⟨w.heap.size + 1, 0, none⟩ = some (.int .i64 3) := cell_of_row _ _ _ _ _ (0, 0) HB2.out.r1
    have c1_1 : w2.cell? ⟨w.heap.size + 1, 1, none⟩ = some (.int .i64 b) := cell_of_row _ _ _ _ _ (0, 0) HB2.out.r1
    have c1_2 : w2.cell? ⟨w.heap.size + 1, 2, none⟩ = some (.int .i64 0) := cell_of_row _ _ _ _ _ (0, 0) HB2.out.r1
    have c1_3 : w2.cell? ⟨w.heap.size + 1, 3, none⟩ = some (.bool false) := cell_of_row _ _ _ _ _ (0, 0) HB2.out.r1
    have c1_4 : w2.cell? ⟨w.heap.size + 1, 4, none⟩ = some (.int .i64 e) := cell_of_row _ _ _ _ _ (0, 0) HB2.out.r1
    go_wp2_with (with_reducible show wpList _ _ _ (Oper.mk _ (.store 25 _ _) _ _ _ _ :: _) _ _; refine Hid.out ?_)
    refine Lib.hid ?_
    refine wpList_put rfl 25 _ _ rfl (w.heap.size + 2) #[.int .i64 3, .int .i64 0, .int .i64 0, .bool true, .int .i64 e] _ 25 rfl rfl HB2.out.r2 (by kernel_rfl) rfl (by kernel_rfl) ?_
    intro w3 hr3 hg3
    have HB3 : Hid (Bx w [(w.heap.size, .cells #[.int .i64 t0, .int .i64 t1, .int .i64 t2, .int .i64 t3, .int .i64 t4, .int .i64 t5, .int .i64 t6, .int .i64 t7, .int .i64 t8] 23 (0, 0)), (w.heap.size + 1, .cells #[.int .i64 3, .int .i64 b, .int .i64 0, .bool false, .int .i64 e] 25 (0, 0)), (w.heap.size + 2, .cells #[.int .i64 3, .int .i64 0, .int .i64 0, .bool true, .int .i64 e] 25 (0, 0))] w3) := Lib.hid (HB2.out.put (by omega) hg3.out hr3.out (by simp only [List.mem_cons, List.not_mem_nil, or_false]; rintro p (rfl | rfl | rfl) <;> simp <;> omega))
    clear c0_6 c0_7 c1_0 c1_1 c1_2 c1_3 c1_4 hr3 hg3 HB2
    have c0_6 : w3.cell? ⟨w.heap.size, 6, none⟩ = some (.int .i64 t6) := cell_of_row _ _ _ _ _ (0, 0) HB3.out.r0
    have c0_7 : w3.cell? ⟨w.heap.size, 7, none⟩ = some (.int .i64 t7) := cell_of_row _ _ _ _ _ (0, 0) HB3.out.r0
    have c1_0 : w3.cell? ⟨w.heap.size + 1, 0, none⟩ = some (.int .i64 3) := cell_of_row _ _ _ _ _ (0, 0) HB3.out.r1
    have c1_1 : w3.cell? ⟨w.heap.size + 1, 1, none⟩ = some (.int .i64 b) := cell_of_row _ _ _ _ _ (0, 0) HB3.out.r1
    have c1_2 : w3.cell? ⟨w.heap.size + 1, 2, none⟩ = some (.int .i64 0) := cell_of_row _ _ _ _ _ (0, 0) HB3.out.r1
    have c1_3 : w3.cell? ⟨w.heap.size + 1, 3, none⟩ = some (.bool false) := cell_of_row _ _ _ _ _ (0, 0) HB3.out.r1
    have c1_4 : w3.cell? ⟨w.heap.size + 1, 4, none⟩ = some (.int .i64 e) := cell_of_row _ _ _ _ _ (0, 0) HB3.out.r1
    go_wp2_with fail
    exact bodyPost_ret (results_row_tmp Try.results8 _ _ _ _ _ (0, 0) _ rfl HB3.out.r2 Try.underlying25 rfl (by kernel_rfl)) rfl (⟨rfl, HB3.out.below⟩)
set_option maxHeartbeats 2000000 in
theorem rstep_c10 (t0 t1 t2 t3 t4 t5 t6 t7 t8 : Int) (b c n : Int) (d : Bool) (e : Int) (k : Int) (wt : Bool) (w : World) (hB : Dr.isB ⟨3, b, c, d, e⟩ = true) (hn : Dr.next c = n) (hd : ¬ k = 2) (hl : ¬ t7 < n) :
    Calls Try.prog 8 #[.agg #[.int .i64 t0, .int .i64 t1, .int .i64 t2, .int .i64 t3, .int .i64 t4, .int .i64 t5, .int .i64 t6, .int .i64 t7, .int .i64 t8], .agg #[.int .i64 3, .int .i64 b, .int .i64 c, .bool d, .int .i64 e], .int .i64 k, .bool true, .bool wt] w fun ee w' => ee = .returned (.tuple #[.agg #[.int .i64 1, .int .i64 0, .int .i64 n, .bool d, .int .i64 (Dr.more e)], .int .i64 3]) ∧ Below w.heap.size w w' := by
  have hst := hB
  obtain ⟨-, hb, hc, he⟩ := (Dr.isB_iff (by simp)).1 hst
  simp only at hb hc he
  have F := Lib.hid (fun wx => refIsState_any 3 b c d e wx)
  rw [hB] at F
  by_cases hc0 : 0 < c
  · rw [show Dr.next c = Dr.more c from if_neg (by omega)] at hn
    have FN := Lib.hid (fun wx => refMore_any c wx hc)
    rw [hn] at FN
    have FM := Lib.hid (fun wx => refMore_any e wx he)
    generalize Dr.more e = m at *
    have FT := Lib.hid (fun wx => refTo_any 3 b n d e 1 wx)
    clear hst hB hn hb hc he
    have HB0 := Lib.hid (bxs3 w (.cells #[.int .i64 t0, .int .i64 t1, .int .i64 t2, .int .i64 t3, .int .i64 t4, .int .i64 t5, .int .i64 t6, .int .i64 t7, .int .i64 t8] 23) (.cells #[.int .i64 3, .int .i64 b, .int .i64 c, .bool d, .int .i64 e] 25) (.cells #[.int .i64 0, .int .i64 0, .int .i64 0, .bool false, .int .i64 0] 25))
    go_enter Try.func8, Try.ntmps8
    go_wp2_with fail
    refine (F.out _).mono ?_
    rintro e w1 ⟨rfl, hb1⟩
    have HB1 := Lib.hid (HB0.out.next hb1)
    clear hb1 HB0
    have c0_6 : w1.cell? ⟨w.heap.size, 6, none⟩ = some (.int .i64 t6) := cell_of_row _ _ _ _ _ (0, 0) HB1.out.r0
    have c0_7 : w1.cell? ⟨w.heap.size, 7, none⟩ = some (.int .i64 t7) := cell_of_row _ _ _ _ _ (0, 0) HB1.out.r0
    have c1_0 : w1.cell? ⟨w.heap.size + 1, 0, none⟩ = some (.int .i64 3) := cell_of_row _ _ _ _ _ (0, 0) HB1.out.r1
    have c1_1 : w1.cell? ⟨w.heap.size + 1, 1, none⟩ = some (.int .i64 b) := cell_of_row _ _ _ _ _ (0, 0) HB1.out.r1
    have c1_2 : w1.cell? ⟨w.heap.size + 1, 2, none⟩ = some (.int .i64 c) := cell_of_row _ _ _ _ _ (0, 0) HB1.out.r1
    have c1_3 : w1.cell? ⟨w.heap.size + 1, 3, none⟩ = some (.bool d) := cell_of_row _ _ _ _ _ (0, 0) HB1.out.r1
    have c1_4 : w1.cell? ⟨w.heap.size + 1, 4, none⟩ = some (.int .i64 e) := cell_of_row _ _ _ _ _ (0, 0) HB1.out.r1
    go_wp2_with fail
    refine (FN.out _).mono ?_
    rintro e w2 ⟨rfl, hb2⟩
    have HB2 := Lib.hid (HB1.out.next hb2)
    clear c0_6 c0_7 c1_0 c1_1 c1_2 c1_3 c1_4 hb2 HB1
    have c0_6 : w2.cell? ⟨w.heap.size, 6, none⟩ = some (.int .i64 t6) := cell_of_row _ _ _ _ _ (0, 0) HB2.out.r0
    have c0_7 : w2.cell? ⟨w.heap.size, 7, none⟩ = some (.int .i64 t7) := cell_of_row _ _ _ _ _ (0, 0) HB2.out.r0
    have c1_0 : w2.cell? ⟨w.heap.size + 1, 0, none⟩ = some (.int .i64 3) := cell_of_row _ _ _ _ _ (0, 0) HB2.out.r1
    have c1_1 : w2.cell? ⟨w.heap.size + 1, 1, none⟩ = some (.int .i64 b) := cell_of_row _ _ _ _ _ (0, 0) HB2.out.r1
    have c1_2 : w2.cell? ⟨w.heap.size + 1, 2, none⟩ = some (.int .i64 c) := cell_of_row _ _ _ _ _ (0, 0) HB2.out.r1
    have c1_3 : w2.cell? ⟨w.heap.size + 1, 3, none⟩ = some (.bool d) := cell_of_row _ _ _ _ _ (0, 0) HB2.out.r1
    have c1_4 : w2.cell? ⟨w.heap.size + 1, 4, none⟩ = some (.int .i64 e) := cell_of_row _ _ _ _ _ (0, 0) HB2.out.r1
    go_wp2_with (with_reducible show wpList _ _ _ (Oper.mk _ (.store 3 _ _) _ _ _ _ :: _) _ _; refine Hid.out ?_)
    refine Lib.hid ?_
    refine wpList_putCell rfl 3 _ _ rfl (w.heap.size + 1) 2 (.int .i64 n) _ _ 25 rfl rfl HB2.out.r1 (by kernel_rfl) (by simp) rfl rfl rfl ?_
    intro w3 hr3 hg3
    have HB3 : Hid (Bx w [(w.heap.size, .cells #[.int .i64 t0, .int .i64 t1, .int .i64 t2, .int .i64 t3, .int .i64 t4, .int .i64 t5, .int .i64 t6, .int .i64 t7, .int .i64 t8] 23 (0, 0)), (w.heap.size + 1, .cells #[.int .i64 3, .int .i64 b, .int .i64 n, .bool d, .int .i64 e] 25 (0, 0)), (w.heap.size + 2, .cells #[.int .i64 0, .int .i64 0, .int .i64 0, .bool false, .int .i64 0] 25 (0, 0))] w3) := Lib.hid (HB2.out.put (by omega) hg3.out hr3.out (by simp only [List.mem_cons, List.not_mem_nil, or_false]; rintro p (rfl | rfl | rfl) <;> simp <;> omega))
    clear c0_6 c0_7 c1_0 c1_1 c1_2 c1_3 c1_4 hr3 hg3 HB2
    have c0_6 : w3.cell? ⟨w.heap.size, 6, none⟩ = some (.int .i64 t6) := cell_of_row _ _ _ _ _ (0, 0) HB3.out.r0
    have c0_7 : w3.cell? ⟨w.heap.size, 7, none⟩ = some (.int .i64 t7) := cell_of_row _ _ _ _ _ (0, 0) HB3.out.r0
    have c1_0 : w3.cell? ⟨w.heap.size + 1, 0, none⟩ = some (.int .i64 3) := cell_of_row _ _ _ _ _ (0, 0) HB3.out.r1
    have c1_1 : w3.cell? ⟨w.heap.size + 1, 1, none⟩ = some (.int .i64 b) := cell_of_row _ _ _ _ _ (0, 0) HB3.out.r1
    have c1_2 : w3.cell? ⟨w.heap.size + 1, 2, none⟩ = some (.int .i64 n) := cell_of_row _ _ _ _ _ (0, 0) HB3.out.r1
    have c1_3 : w3.cell? ⟨w.heap.size + 1, 3, none⟩ = some (.bool d) := cell_of_row _ _ _ _ _ (0, 0) HB3.out.r1
    have c1_4 : w3.cell? ⟨w.heap.size + 1, 4, none⟩ = some (.int .i64 e) := cell_of_row _ _ _ _ _ (0, 0) HB3.out.r1
    go_wp2_with fail
    refine (FT.out _).mono ?_
    rintro e w4 ⟨rfl, hb4⟩
    have HB4 := Lib.hid (HB3.out.next hb4)
    clear c0_6 c0_7 c1_0 c1_1 c1_2 c1_3 c1_4 hb4 HB3
    have c0_6 : w4.cell? ⟨w.heap.size, 6, none⟩ = some (.int .i64 t6) := cell_of_row _ _ _ _ _ (0, 0) HB4.out.r0
    have c0_7 : w4.cell? ⟨w.heap.size, 7, none⟩ = some (.int .i64 t7) := cell_of_row _ _ _ _ _ (0, 0) HB4.out.r0
    have c1_0 : w4.cell? ⟨w.heap.size + 1, 0, none⟩ = some (.int .i64 3) := cell_of_row _ _ _ _ _ (0, 0) HB4.out.r1
    have c1_1 : w4.cell? ⟨w.heap.size + 1, 1, none⟩ = some (.int .i64 b) := cell_of_row _ _ _ _ _ (0, 0) HB4.out.r1
    have c1_2 : w4.cell? ⟨w.heap.size + 1, 2, none⟩ = some (.int .i64 n) := cell_of_row _ _ _ _ _ (0, 0) HB4.out.r1
    have c1_3 : w4.cell? ⟨w.heap.size + 1, 3, none⟩ = some (.bool d) := cell_of_row _ _ _ _ _ (0, 0) HB4.out.r1
    have c1_4 : w4.cell? ⟨w.heap.size + 1, 4, none⟩ = some (.int .i64 e) := cell_of_row _ _ _ _ _ (0, 0) HB4.out.r1
    go_wp2_with (with_reducible show wpList _ _ _ (Oper.mk _ (.store 25 _ _) _ _ _ _ :: _) _ _; refine Hid.out ?_)
    refine Lib.hid ?_
    refine wpList_put rfl 25 _ _ rfl (w.heap.size + 1) #[.int .i64 1, .int .i64 0, .int .i64 n, .bool d, .int .i64 e] _ 25 rfl rfl HB4.out.r1 (by kernel_rfl) rfl (by kernel_rfl) ?_
    intro w5 hr5 hg5
    have HB5 : Hid (Bx w [(w.heap.size, .cells #[.int .i64 t0, .int .i64 t1, .int .i64 t2, .int .i64 t3, .int .i64 t4, .int .i64 t5, .int .i64 t6, .int .i64 t7, .int .i64 t8] 23 (0, 0)), (w.heap.size + 1, .cells #[.int .i64 1, .int .i64 0, .int .i64 n, .bool d, .int .i64 e] 25 (0, 0)), (w.heap.size + 2, .cells #[.int .i64 0, .int .i64 0, .int .i64 0, .bool false, .int .i64 0] 25 (0, 0))] w5) := Lib.hid (HB4.out.put (by omega) hg5.out hr5.out (by simp only [List.mem_cons, List.not_mem_nil, or_false]; rintro p (rfl | rfl | rfl) <;> simp <;> omega))
    clear c0_6 c0_7 c1_0 c1_1 c1_2 c1_3 c1_4 hr5 hg5 HB4
    have c0_6 : w5.cell? ⟨w.heap.size, 6, none⟩ = some (.int .i64 t6) := cell_of_row _ _ _ _ _ (0, 0) HB5.out.r0
    have c0_7 : w5.cell? ⟨w.heap.size, 7, none⟩ = some (.int .i64 t7) := cell_of_row _ _ _ _ _ (0, 0) HB5.out.r0
    have c1_0 : w5.cell? ⟨w.heap.size + 1, 0, none⟩ = some (.int .i64 1) := cell_of_row _ _ _ _ _ (0, 0) HB5.out.r1
    have c1_1 : w5.cell? ⟨w.heap.size + 1, 1, none⟩ = some (.int .i64 0) := cell_of_row _ _ _ _ _ (0, 0) HB5.out.r1
    have c1_2 : w5.cell? ⟨w.heap.size + 1, 2, none⟩ = some (.int .i64 n) := cell_of_row _ _ _ _ _ (0, 0) HB5.out.r1
    have c1_3 : w5.cell? ⟨w.heap.size + 1, 3, none⟩ = some (.bool d) := cell_of_row _ _ _ _ _ (0, 0) HB5.out.r1
    have c1_4 : w5.cell? ⟨w.heap.size + 1, 4, none⟩ = some (.int .i64 e) := cell_of_row _ _ _ _ _ (0, 0) HB5.out.r1
    go_wp2_with fail
    refine (FM.out _).mono ?_
    rintro e w6 ⟨rfl, hb6⟩
    have HB6 := Lib.hid (HB5.out.next hb6)
    clear c0_6 c0_7 c1_0 c1_1 c1_2 c1_3 c1_4 hb6 HB5
    have c0_6 : w6.cell? ⟨w.heap.size, 6, none⟩ = some (.int .i64 t6) := cell_of_row _ _ _ _ _ (0, 0) HB6.out.r0
    have c0_7 : w6.cell? ⟨w.heap.size, 7, none⟩ = some (.int .i64 t7) := cell_of_row _ _ _ _ _ (0, 0) HB6.out.r0
    have c1_0 : w6.cell? ⟨w.heap.size + 1, 0, none⟩ = some (.int .i64 1) := cell_of_row _ _ _ _ _ (0, 0) HB6.out.r1
    have c1_1 : w6.cell? ⟨w.heap.size + 1, 1, none⟩ = some (.int .i64 0) := cell_of_row _ _ _ _ _ (0, 0) HB6.out.r1
    have c1_2 : w6.cell? ⟨w.heap.size + 1, 2, none⟩ = some (.int .i64 n) := cell_of_row _ _ _ _ _ (0, 0) HB6.out.r1
    have c1_3 : w6.cell? ⟨w.heap.size + 1, 3, none⟩ = some (.bool d) := cell_of_row _ _ _ _ _ (0, 0) HB6.out.r1
    have c1_4 : w6.cell? ⟨w.heap.size + 1, 4, none⟩ = some (.int .i64 e) := cell_of_row _ _ _ _ _ (0, 0) HB6.out.r1
    go_wp2_with (with_reducible show wpList _ _ _ (Oper.mk _ (.store 3 _ _) _ _ _ _ :: _) _ _; refine Hid.out ?_)
    refine Lib.hid ?_
    refine wpList_putCell rfl 3 _ _ rfl (w.heap.size + 1) 4 (.int .i64 m) _ _ 25 rfl rfl HB6.out.r1 (by kernel_rfl) (by simp) rfl rfl rfl ?_
    intro w7 hr7 hg7
    have HB7 : Hid (Bx w [(w.heap.size, .cells #[.int .i64 t0, .int .i64 t1, .int .i64 t2, .int .i64 t3, .int .i64 t4, .int .i64 t5, .int .i64 t6, .int .i64 t7, .int .i64 t8] 23 (0, 0)), (w.heap.size + 1, .cells #[.int .i64 1, .int .i64 0, .int .i64 n, .bool d, .int .i64 m] 25 (0, 0)), (w.heap.size + 2, .cells #[.int .i64 0, .int .i64 0, .int .i64 0, .bool false, .int .i64 0] 25 (0, 0))] w7) := Lib.hid (HB6.out.put (by omega) hg7.out hr7.out (by simp only [List.mem_cons, List.not_mem_nil, or_false]; rintro p (rfl | rfl | rfl) <;> simp <;> omega))
    clear c0_6 c0_7 c1_0 c1_1 c1_2 c1_3 c1_4 hr7 hg7 HB6
    have c0_6 : w7.cell? ⟨w.heap.size, 6, none⟩ = some (.int .i64 t6) := cell_of_row _ _ _ _ _ (0, 0) HB7.out.r0
    have c0_7 : w7.cell? ⟨w.heap.size, 7, none⟩ = some (.int .i64 t7) := cell_of_row _ _ _ _ _ (0, 0) HB7.out.r0
    have c1_0 : w7.cell? ⟨w.heap.size + 1, 0, none⟩ = some (.int .i64 1) := cell_of_row _ _ _ _ _ (0, 0) HB7.out.r1
    have c1_1 : w7.cell? ⟨w.heap.size + 1, 1, none⟩ = some (.int .i64 0) := cell_of_row _ _ _ _ _ (0, 0) HB7.out.r1
    have c1_2 : w7.cell? ⟨w.heap.size + 1, 2, none⟩ = some (.int .i64 n) := cell_of_row _ _ _ _ _ (0, 0) HB7.out.r1
    have c1_3 : w7.cell? ⟨w.heap.size + 1, 3, none⟩ = some (.bool d) := cell_of_row _ _ _ _ _ (0, 0) HB7.out.r1
    have c1_4 : w7.cell? ⟨w.heap.size + 1, 4, none⟩ = some (.int .i64 m) := cell_of_row _ _ _ _ _ (0, 0) HB7.out.r1
    go_wp2_with (with_reducible show wpList _ _ _ (Oper.mk _ (.store 25 _ _) _ _ _ _ :: _) _ _; refine Hid.out ?_)
    refine Lib.hid ?_
    refine wpList_put rfl 25 _ _ rfl (w.heap.size + 2) #[.int .i64 1, .int .i64 0, .int .i64 n, .bool d, .int .i64 m] _ 25 rfl rfl HB7.out.r2 (by kernel_rfl) rfl (by kernel_rfl) ?_
    intro w8 hr8 hg8
    have HB8 : Hid (Bx w [(w.heap.size, .cells #[.int .i64 t0, .int .i64 t1, .int .i64 t2, .int .i64 t3, .int .i64 t4, .int .i64 t5, .int .i64 t6, .int .i64 t7, .int .i64 t8] 23 (0, 0)), (w.heap.size + 1, .cells #[.int .i64 1, .int .i64 0, .int .i64 n, .bool d, .int .i64 m] 25 (0, 0)), (w.heap.size + 2, .cells #[.int .i64 1, .int .i64 0, .int .i64 n, .bool d, .int .i64 m] 25 (0, 0))] w8) := Lib.hid (HB7.out.put (by omega) hg8.out hr8.out (by simp only [List.mem_cons, List.not_mem_nil, or_false]; rintro p (rfl | rfl | rfl) <;> simp <;> omega))
    clear c0_6 c0_7 c1_0 c1_1 c1_2 c1_3 c1_4 hr8 hg8 HB7
    have c0_6 : w8.cell? ⟨w.heap.size, 6, none⟩ = some (.int .i64 t6) := cell_of_row _ _ _ _ _ (0, 0) HB8.out.r0
    have c0_7 : w8.cell? ⟨w.heap.size, 7, none⟩ = some (.int .i64 t7) := cell_of_row _ _ _ _ _ (0, 0) HB8.out.r0
    have c1_0 : w8.cell? ⟨w.heap.size + 1, 0, none⟩ = some (.int .i64 1) := cell_of_row _ _ _ _ _ (0, 0) HB8.out.r1
    have c1_1 : w8.cell? ⟨w.heap.size + 1, 1, none⟩ = some (.int .i64 0) := cell_of_row _ _ _ _ _ (0, 0) HB8.out.r1
    have c1_2 : w8.cell? ⟨w.heap.size + 1, 2, none⟩ = some (.int .i64 n) := cell_of_row _ _ _ _ _ (0, 0) HB8.out.r1
    have c1_3 : w8.cell? ⟨w.heap.size + 1, 3, none⟩ = some (.bool d) := cell_of_row _ _ _ _ _ (0, 0) HB8.out.r1
    have c1_4 : w8.cell? ⟨w.heap.size + 1, 4, none⟩ = some (.int .i64 m) := cell_of_row _ _ _ _ _ (0, 0) HB8.out.r1
    go_wp2_with fail
    exact bodyPost_ret (results_row_tmp Try.results8 _ _ _ _ _ (0, 0) _ rfl HB8.out.r2 Try.underlying25 rfl (by kernel_rfl)) rfl (⟨rfl, HB8.out.below⟩)
  · obtain rfl : c = 0 := by omega
    obtain rfl : (0 : Int) = n := hn
    have FM := Lib.hid (fun wx => refMore_any e wx he)
    generalize Dr.more e = m at *
    have FT := Lib.hid (fun wx => refTo_any 3 b 0 d e 1 wx)
    clear hst hB hb hc he
    have HB0 := Lib.hid (bxs3 w (.cells #[.int .i64 t0, .int .i64 t1, .int .i64 t2, .int .i64 t3, .int .i64 t4, .int .i64 t5, .int .i64 t6, .int .i64 t7, .int .i64 t8] 23) (.cells #[.int .i64 3, .int .i64 b, .int .i64 0, .bool d, .int .i64 e] 25) (.cells #[.int .i64 0, .int .i64 0, .int .i64 0, .bool false, .int .i64 0] 25))
    go_enter Try.func8, Try.ntmps8
    go_wp2_with fail
    refine (F.out _).mono ?_
    rintro e w1 ⟨rfl, hb1⟩
    have HB1 := Lib.hid (HB0.out.next hb1)
    clear hb1 HB0
    have c0_6 : w1.cell? ⟨w.heap.size, 6, none⟩ = some (.int .i64 t6) := cell_of_row _ _ _ _ _ (0, 0) HB1.out.r0
    have c0_7 : w1.cell? ⟨w.heap.size, 7, none⟩ = some (.int .i64 t7) := cell_of_row _ _ _ _ _ (0, 0) HB1.out.r0
    have c1_0 : w1.cell? ⟨w.heap.size + 1, 0, none⟩ = some (.int .i64 3) := cell_of_row _ _ _ _ _ (0, 0) HB1.out.r1
    have c1_1 : w1.cell? ⟨w.heap.size + 1, 1, none⟩ = some (.int .i64 b) := cell_of_row _ _ _ _ _ (0, 0) HB1.out.r1
    have c1_2 : w1.cell? ⟨w.heap.size + 1, 2, none⟩ = some (.int .i64 0) := cell_of_row _ _ _ _ _ (0, 0) HB1.out.r1
    have c1_3 : w1.cell? ⟨w.heap.size + 1, 3, none⟩ = some (.bool d) := cell_of_row _ _ _ _ _ (0, 0) HB1.out.r1
    have c1_4 : w1.cell? ⟨w.heap.size + 1, 4, none⟩ = some (.int .i64 e) := cell_of_row _ _ _ _ _ (0, 0) HB1.out.r1
    go_wp2_with fail
    refine (FT.out _).mono ?_
    rintro e w2 ⟨rfl, hb2⟩
    have HB2 := Lib.hid (HB1.out.next hb2)
    clear c0_6 c0_7 c1_0 c1_1 c1_2 c1_3 c1_4 hb2 HB1
    have c0_6 : w2.cell? ⟨w.heap.size, 6, none⟩ = some (.int .i64 t6) := cell_of_row _ _ _ _ _ (0, 0) HB2.out.r0
    have c0_7 : w2.cell? ⟨w.heap.size, 7, none⟩ = some (.int .i64 t7) := cell_of_row _ _ _ _ _ (0, 0) HB2.out.r0
    have c1_0 : w2.cell? ⟨w.heap.size + 1, 0, none⟩ = some (.int .i64 3) := cell_of_row _ _ _ _ _ (0, 0) HB2.out.r1
    have c1_1 : w2.cell? ⟨w.heap.size + 1, 1, none⟩ = some (.int .i64 b) := cell_of_row _ _ _ _ _ (0, 0) HB2.out.r1
    have c1_2 : w2.cell? ⟨w.heap.size + 1, 2, none⟩ = some (.int .i64 0) := cell_of_row _ _ _ _ _ (0, 0) HB2.out.r1
    have c1_3 : w2.cell? ⟨w.heap.size + 1, 3, none⟩ = some (.bool d) := cell_of_row _ _ _ _ _ (0, 0) HB2.out.r1
    have c1_4 : w2.cell? ⟨w.heap.size + 1, 4, none⟩ = some (.int .i64 e) := cell_of_row _ _ _ _ _ (0, 0) HB2.out.r1
    go_wp2_with (with_reducible show wpList _ _ _ (Oper.mk _ (.store 25 _ _) _ _ _ _ :: _) _ _; refine Hid.out ?_)
    refine Lib.hid ?_
    refine wpList_put rfl 25 _ _ rfl (w.heap.size + 1) #[.int .i64 1, .int .i64 0, .int .i64 0, .bool d, .int .i64 e] _ 25 rfl rfl HB2.out.r1 (by kernel_rfl) rfl (by kernel_rfl) ?_
    intro w3 hr3 hg3
    have HB3 : Hid (Bx w [(w.heap.size, .cells #[.int .i64 t0, .int .i64 t1, .int .i64 t2, .int .i64 t3, .int .i64 t4, .int .i64 t5, .int .i64 t6, .int .i64 t7, .int .i64 t8] 23 (0, 0)), (w.heap.size + 1, .cells #[.int .i64 1, .int .i64 0, .int .i64 0, .bool d, .int .i64 e] 25 (0, 0)), (w.heap.size + 2, .cells #[.int .i64 0, .int .i64 0, .int .i64 0, .bool false, .int .i64 0] 25 (0, 0))] w3) := Lib.hid (HB2.out.put (by omega) hg3.out hr3.out (by simp only [List.mem_cons, List.not_mem_nil, or_false]; rintro p (rfl | rfl | rfl) <;> simp <;> omega))
    clear c0_6 c0_7 c1_0 c1_1 c1_2 c1_3 c1_4 hr3 hg3 HB2
    have c0_6 : w3.cell? ⟨w.heap.size, 6, none⟩ = some (.int .i64 t6) := cell_of_row _ _ _ _ _ (0, 0) HB3.out.r0
    have c0_7 : w3.cell? ⟨w.heap.size, 7, none⟩ = some (.int .i64 t7) := cell_of_row _ _ _ _ _ (0, 0) HB3.out.r0
    have c1_0 : w3.cell? ⟨w.heap.size + 1, 0, none⟩ = some (.int .i64 1) := cell_of_row _ _ _ _ _ (0, 0) HB3.out.r1
    have c1_1 : w3.cell? ⟨w.heap.size + 1, 1, none⟩ = some (.int .i64 0) := cell_of_row _ _ _ _ _ (0, 0) HB3.out.r1
    have c1_2 : w3.cell? ⟨w.heap.size + 1, 2, none⟩ = some (.int .i64 0) := cell_of_row _ _ _ _ _ (0, 0) HB3.out.r1
    have c1_3 : w3.cell? ⟨w.heap.size + 1, 3, none⟩ = some (.bool d) := cell_of_row _ _ _ _ _ (0, 0) HB3.out.r1
    have c1_4 : w3.cell? ⟨w.heap.size + 1, 4, none⟩ = some (.int .i64 e) := cell_of_row _ _ _ _ _ (0, 0) HB3.out.r1
    go_wp2_with fail
    refine (FM.out _).mono ?_
    rintro e w4 ⟨rfl, hb4⟩
    have HB4 := Lib.hid (HB3.out.next hb4)
    clear c0_6 c0_7 c1_0 c1_1 c1_2 c1_3 c1_4 hb4 HB3
    have c0_6 : w4.cell? ⟨w.heap.size, 6, none⟩ = some (.int .i64 t6) := cell_of_row _ _ _ _ _ (0, 0) HB4.out.r0
    have c0_7 : w4.cell? ⟨w.heap.size, 7, none⟩ = some (.int .i64 t7) := cell_of_row _ _ _ _ _ (0, 0) HB4.out.r0
    have c1_0 : w4.cell? ⟨w.heap.size + 1, 0, none⟩ = some (.int .i64 1) := cell_of_row _ _ _ _ _ (0, 0) HB4.out.r1
    have c1_1 : w4.cell? ⟨w.heap.size + 1, 1, none⟩ = some (.int .i64 0) := cell_of_row _ _ _ _ _ (0, 0) HB4.out.r1
    have c1_2 : w4.cell? ⟨w.heap.size + 1, 2, none⟩ = some (.int .i64 0) := cell_of_row _ _ _ _ _ (0, 0) HB4.out.r1
    have c1_3 : w4.cell? ⟨w.heap.size + 1, 3, none⟩ = some (.bool d) := cell_of_row _ _ _ _ _ (0, 0) HB4.out.r1
    have c1_4 : w4.cell? ⟨w.heap.size + 1, 4, none⟩ = some (.int .i64 e) := cell_of_row _ _ _ _ _ (0, 0) HB4.out.r1
    go_wp2_with (with_reducible show wpList _ _ _ (Oper.mk _ (.store 3 _ _) _ _ _ _ :: _) _ _; refine Hid.out ?_)
    refine Lib.hid ?_
    refine wpList_putCell rfl 3 _ _ rfl (w.heap.size + 1) 4 (.int .i64 m) _ _ 25 rfl rfl HB4.out.r1 (by kernel_rfl) (by simp) rfl rfl rfl ?_
    intro w5 hr5 hg5
    have HB5 : Hid (Bx w [(w.heap.size, .cells #[.int .i64 t0, .int .i64 t1, .int .i64 t2, .int .i64 t3, .int .i64 t4, .int .i64 t5, .int .i64 t6, .int .i64 t7, .int .i64 t8] 23 (0, 0)), (w.heap.size + 1, .cells #[.int .i64 1, .int .i64 0, .int .i64 0, .bool d, .int .i64 m] 25 (0, 0)), (w.heap.size + 2, .cells #[.int .i64 0, .int .i64 0, .int .i64 0, .bool false, .int .i64 0] 25 (0, 0))] w5) := Lib.hid (HB4.out.put (by omega) hg5.out hr5.out (by simp only [List.mem_cons, List.not_mem_nil, or_false]; rintro p (rfl | rfl | rfl) <;> simp <;> omega))
    clear c0_6 c0_7 c1_0 c1_1 c1_2 c1_3 c1_4 hr5 hg5 HB4
    have c0_6 : w5.cell? ⟨w.heap.size, 6, none⟩ = some (.int .i64 t6) := cell_of_row _ _ _ _ _ (0, 0) HB5.out.r0
    have c0_7 : w5.cell? ⟨w.heap.size, 7, none⟩ = some (.int .i64 t7) := cell_of_row _ _ _ _ _ (0, 0) HB5.out.r0
    have c1_0 : w5.cell? ⟨w.heap.size + 1, 0, none⟩ = some (.int .i64 1) := cell_of_row _ _ _ _ _ (0, 0) HB5.out.r1
    have c1_1 : w5.cell? ⟨w.heap.size + 1, 1, none⟩ = some (.int .i64 0) := cell_of_row _ _ _ _ _ (0, 0) HB5.out.r1
    have c1_2 : w5.cell? ⟨w.heap.size + 1, 2, none⟩ = some (.int .i64 0) := cell_of_row _ _ _ _ _ (0, 0) HB5.out.r1
    have c1_3 : w5.cell? ⟨w.heap.size + 1, 3, none⟩ = some (.bool d) := cell_of_row _ _ _ _ _ (0, 0) HB5.out.r1
    have c1_4 : w5.cell? ⟨w.heap.size + 1, 4, none⟩ = some (.int .i64 m) := cell_of_row _ _ _ _ _ (0, 0) HB5.out.r1
    go_wp2_with (with_reducible show wpList _ _ _ (Oper.mk _ (.store 25 _ _) _ _ _ _ :: _) _ _; refine Hid.out ?_)
    refine Lib.hid ?_
    refine wpList_put rfl 25 _ _ rfl (w.heap.size + 2) #[.int .i64 1, .int .i64 0, .int .i64 0, .bool d, .int .i64 m] _ 25 rfl rfl HB5.out.r2 (by kernel_rfl) rfl (by kernel_rfl) ?_
    intro w6 hr6 hg6
    have HB6 : Hid (Bx w [(w.heap.size, .cells #[.int .i64 t0, .int .i64 t1, .int .i64 t2, .int .i64 t3, .int .i64 t4, .int .i64 t5, .int .i64 t6, .int .i64 t7, .int .i64 t8] 23 (0, 0)), (w.heap.size + 1, .cells #[.int .i64 1, .int .i64 0, .int .i64 0, .bool d, .int .i64 m] 25 (0, 0)), (w.heap.size + 2, .cells #[.int .i64 1, .int .i64 0, .int .i64 0, .bool d, .int .i64 m] 25 (0, 0))] w6) := Lib.hid (HB5.out.put (by omega) hg6.out hr6.out (by simp only [List.mem_cons, List.not_mem_nil, or_false]; rintro p (rfl | rfl | rfl) <;> simp <;> omega))
    clear c0_6 c0_7 c1_0 c1_1 c1_2 c1_3 c1_4 hr6 hg6 HB5
    have c0_6 : w6.cell? ⟨w.heap.size, 6, none⟩ = some (.int .i64 t6) := cell_of_row _ _ _ _ _ (0, 0) HB6.out.r0
    have c0_7 : w6.cell? ⟨w.heap.size, 7, none⟩ = some (.int .i64 t7) := cell_of_row _ _ _ _ _ (0, 0) HB6.out.r0
    have c1_0 : w6.cell? ⟨w.heap.size + 1, 0, none⟩ = some (.int .i64 1) := cell_of_row _ _ _ _ _ (0, 0) HB6.out.r1
    have c1_1 : w6.cell? ⟨w.heap.size + 1, 1, none⟩ = some (.int .i64 0) := cell_of_row _ _ _ _ _ (0, 0) HB6.out.r1
    have c1_2 : w6.cell? ⟨w.heap.size + 1, 2, none⟩ = some (.int .i64 0) := cell_of_row _ _ _ _ _ (0, 0) HB6.out.r1
    have c1_3 : w6.cell? ⟨w.heap.size + 1, 3, none⟩ = some (.bool d) := cell_of_row _ _ _ _ _ (0, 0) HB6.out.r1
    have c1_4 : w6.cell? ⟨w.heap.size + 1, 4, none⟩ = some (.int .i64 m) := cell_of_row _ _ _ _ _ (0, 0) HB6.out.r1
    go_wp2_with fail
    exact bodyPost_ret (results_row_tmp Try.results8 _ _ _ _ _ (0, 0) _ rfl HB6.out.r2 Try.underlying25 rfl (by kernel_rfl)) rfl (⟨rfl, HB6.out.below⟩)
set_option maxHeartbeats 2000000 in
theorem rstep_c11 (t0 t1 t2 t3 t4 t5 t6 t7 t8 : Int) (b c n : Int) (d : Bool) (e : Int) (k : Int) (wt : Bool) (w : World) (hB : Dr.isB ⟨3, b, c, d, e⟩ = true) (hn : Dr.next c = n) (hd : ¬ k = 2) (hl : ¬ t7 < n) :
    Calls Try.prog 8 #[.agg #[.int .i64 t0, .int .i64 t1, .int .i64 t2, .int .i64 t3, .int .i64 t4, .int .i64 t5, .int .i64 t6, .int .i64 t7, .int .i64 t8], .agg #[.int .i64 3, .int .i64 b, .int .i64 c, .bool d, .int .i64 e], .int .i64 k, .bool false, .bool wt] w fun ee w' => ee = .returned (.tuple #[.agg #[.int .i64 3, .int .i64 (Dr.more b), .int .i64 n, .bool d, .int .i64 e], .int .i64 4]) ∧ Below w.heap.size w w' := by
  have hst := hB
  obtain ⟨-, hb, hc, he⟩ := (Dr.isB_iff (by simp)).1 hst
  simp only at hb hc he
  have F := Lib.hid (fun wx => refIsState_any 3 b c d e wx)
  rw [hB] at F
  by_cases hc0 : 0 < c
  · rw [show Dr.next c = Dr.more c from if_neg (by omega)] at hn
    have FN := Lib.hid (fun wx => refMore_any c wx hc)
    rw [hn] at FN
    have FM := Lib.hid (fun wx => refMore_any b wx hb)
    generalize Dr.more b = m at *
    clear hst hB hn hb hc he
    have HB0 := Lib.hid (bxs3 w (.cells #[.int .i64 t0, .int .i64 t1, .int .i64 t2, .int .i64 t3, .int .i64 t4, .int .i64 t5, .int .i64 t6, .int .i64 t7, .int .i64 t8] 23) (.cells #[.int .i64 3, .int .i64 b, .int .i64 c, .bool d, .int .i64 e] 25) (.cells #[.int .i64 0, .int .i64 0, .int .i64 0, .bool false, .int .i64 0] 25))
    go_enter Try.func8, Try.ntmps8
    go_wp2_with fail
    refine (F.out _).mono ?_
    rintro e w1 ⟨rfl, hb1⟩
    have HB1 := Lib.hid (HB0.out.next hb1)
    clear hb1 HB0
    have c0_6 : w1.cell? ⟨w.heap.size, 6, none⟩ = some (.int .i64 t6) := cell_of_row _ _ _ _ _ (0, 0) HB1.out.r0
    have c0_7 : w1.cell? ⟨w.heap.size, 7, none⟩ = some (.int .i64 t7) := cell_of_row _ _ _ _ _ (0, 0) HB1.out.r0
    have c1_0 : w1.cell? ⟨w.heap.size + 1, 0, none⟩ = some (.int .i64 3) := cell_of_row _ _ _ _ _ (0, 0) HB1.out.r1
    have c1_1 : w1.cell? ⟨w.heap.size + 1, 1, none⟩ = some (.int .i64 b) := cell_of_row _ _ _ _ _ (0, 0) HB1.out.r1
    have c1_2 : w1.cell? ⟨w.heap.size + 1, 2, none⟩ = some (.int .i64 c) := cell_of_row _ _ _ _ _ (0, 0) HB1.out.r1
    have c1_3 : w1.cell? ⟨w.heap.size + 1, 3, none⟩ = some (.bool d) := cell_of_row _ _ _ _ _ (0, 0) HB1.out.r1
    have c1_4 : w1.cell? ⟨w.heap.size + 1, 4, none⟩ = some (.int .i64 e) := cell_of_row _ _ _ _ _ (0, 0) HB1.out.r1
    go_wp2_with fail
    refine (FN.out _).mono ?_
    rintro e w2 ⟨rfl, hb2⟩
    have HB2 := Lib.hid (HB1.out.next hb2)
    clear c0_6 c0_7 c1_0 c1_1 c1_2 c1_3 c1_4 hb2 HB1
    have c0_6 : w2.cell? ⟨w.heap.size, 6, none⟩ = some (.int .i64 t6) := cell_of_row _ _ _ _ _ (0, 0) HB2.out.r0
    have c0_7 : w2.cell? ⟨w.heap.size, 7, none⟩ = some (.int .i64 t7) := cell_of_row _ _ _ _ _ (0, 0) HB2.out.r0
    have c1_0 : w2.cell? ⟨w.heap.size + 1, 0, none⟩ = some (.int .i64 3) := cell_of_row _ _ _ _ _ (0, 0) HB2.out.r1
    have c1_1 : w2.cell? ⟨w.heap.size + 1, 1, none⟩ = some (.int .i64 b) := cell_of_row _ _ _ _ _ (0, 0) HB2.out.r1
    have c1_2 : w2.cell? ⟨w.heap.size + 1, 2, none⟩ = some (.int .i64 c) := cell_of_row _ _ _ _ _ (0, 0) HB2.out.r1
    have c1_3 : w2.cell? ⟨w.heap.size + 1, 3, none⟩ = some (.bool d) := cell_of_row _ _ _ _ _ (0, 0) HB2.out.r1
    have c1_4 : w2.cell? ⟨w.heap.size + 1, 4, none⟩ = some (.int .i64 e) := cell_of_row _ _ _ _ _ (0, 0) HB2.out.r1
    go_wp2_with (with_reducible show wpList _ _ _ (Oper.mk _ (.store 3 _ _) _ _ _ _ :: _) _ _; refine Hid.out ?_)
    refine Lib.hid ?_
    refine wpList_putCell rfl 3 _ _ rfl (w.heap.size + 1) 2 (.int .i64 n) _ _ 25 rfl rfl HB2.out.r1 (by kernel_rfl) (by simp) rfl rfl rfl ?_
    intro w3 hr3 hg3
    have HB3 : Hid (Bx w [(w.heap.size, .cells #[.int .i64 t0, .int .i64 t1, .int .i64 t2, .int .i64 t3, .int .i64 t4, .int .i64 t5, .int .i64 t6, .int .i64 t7, .int .i64 t8] 23 (0, 0)), (w.heap.size + 1, .cells #[.int .i64 3, .int .i64 b, .int .i64 n, .bool d, .int .i64 e] 25 (0, 0)), (w.heap.size + 2, .cells #[.int .i64 0, .int .i64 0, .int .i64 0, .bool false, .int .i64 0] 25 (0, 0))] w3) := Lib.hid (HB2.out.put (by omega) hg3.out hr3.out (by simp only [List.mem_cons, List.not_mem_nil, or_false]; rintro p (rfl | rfl | rfl) <;> simp <;> omega))
    clear c0_6 c0_7 c1_0 c1_1 c1_2 c1_3 c1_4 hr3 hg3 HB2
    have c0_6 : w3.cell? ⟨w.heap.size, 6, none⟩ = some (.int .i64 t6) := cell_of_row _ _ _ _ _ (0, 0) HB3.out.r0
    have c0_7 : w3.cell? ⟨w.heap.size, 7, none⟩ = some (.int .i64 t7) := cell_of_row _ _ _ _ _ (0, 0) HB3.out.r0
    have c1_0 : w3.cell? ⟨w.heap.size + 1, 0, none⟩ = some (.int .i64 3) := cell_of_row _ _ _ _ _ (0, 0) HB3.out.r1
    have c1_1 : w3.cell? ⟨w.heap.size + 1, 1, none⟩ = some (.int .i64 b) := cell_of_row _ _ _ _ _ (0, 0) HB3.out.r1
    have c1_2 : w3.cell? ⟨w.heap.size + 1, 2, none⟩ = some (.int .i64 n) := cell_of_row _ _ _ _ _ (0, 0) HB3.out.r1
    have c1_3 : w3.cell? ⟨w.heap.size + 1, 3, none⟩ = some (.bool d) := cell_of_row _ _ _ _ _ (0, 0) HB3.out.r1
    have c1_4 : w3.cell? ⟨w.heap.size + 1, 4, none⟩ = some (.int .i64 e) := cell_of_row _ _ _ _ _ (0, 0) HB3.out.r1
    go_wp2_with fail
    refine (FM.out _).mono ?_
    rintro e w4 ⟨rfl, hb4⟩
    have HB4 := Lib.hid (HB3.out.next hb4)
    clear c0_6 c0_7 c1_0 c1_1 c1_2 c1_3 c1_4 hb4 HB3
    have c0_6 : w4.cell? ⟨w.heap.size, 6, none⟩ = some (.int .i64 t6) := cell_of_row _ _ _ _ _ (0, 0) HB4.out.r0
    have c0_7 : w4.cell? ⟨w.heap.size, 7, none⟩ = some (.int .i64 t7) := cell_of_row _ _ _ _ _ (0, 0) HB4.out.r0
    have c1_0 : w4.cell? ⟨w.heap.size + 1, 0, none⟩ = some (.int .i64 3) := cell_of_row _ _ _ _ _ (0, 0) HB4.out.r1
    have c1_1 : w4.cell? ⟨w.heap.size + 1, 1, none⟩ = some (.int .i64 b) := cell_of_row _ _ _ _ _ (0, 0) HB4.out.r1
    have c1_2 : w4.cell? ⟨w.heap.size + 1, 2, none⟩ = some (.int .i64 n) := cell_of_row _ _ _ _ _ (0, 0) HB4.out.r1
    have c1_3 : w4.cell? ⟨w.heap.size + 1, 3, none⟩ = some (.bool d) := cell_of_row _ _ _ _ _ (0, 0) HB4.out.r1
    have c1_4 : w4.cell? ⟨w.heap.size + 1, 4, none⟩ = some (.int .i64 e) := cell_of_row _ _ _ _ _ (0, 0) HB4.out.r1
    go_wp2_with (with_reducible show wpList _ _ _ (Oper.mk _ (.store 3 _ _) _ _ _ _ :: _) _ _; refine Hid.out ?_)
    refine Lib.hid ?_
    refine wpList_putCell rfl 3 _ _ rfl (w.heap.size + 1) 1 (.int .i64 m) _ _ 25 rfl rfl HB4.out.r1 (by kernel_rfl) (by simp) rfl rfl rfl ?_
    intro w5 hr5 hg5
    have HB5 : Hid (Bx w [(w.heap.size, .cells #[.int .i64 t0, .int .i64 t1, .int .i64 t2, .int .i64 t3, .int .i64 t4, .int .i64 t5, .int .i64 t6, .int .i64 t7, .int .i64 t8] 23 (0, 0)), (w.heap.size + 1, .cells #[.int .i64 3, .int .i64 m, .int .i64 n, .bool d, .int .i64 e] 25 (0, 0)), (w.heap.size + 2, .cells #[.int .i64 0, .int .i64 0, .int .i64 0, .bool false, .int .i64 0] 25 (0, 0))] w5) := Lib.hid (HB4.out.put (by omega) hg5.out hr5.out (by simp only [List.mem_cons, List.not_mem_nil, or_false]; rintro p (rfl | rfl | rfl) <;> simp <;> omega))
    clear c0_6 c0_7 c1_0 c1_1 c1_2 c1_3 c1_4 hr5 hg5 HB4
    have c0_6 : w5.cell? ⟨w.heap.size, 6, none⟩ = some (.int .i64 t6) := cell_of_row _ _ _ _ _ (0, 0) HB5.out.r0
    have c0_7 : w5.cell? ⟨w.heap.size, 7, none⟩ = some (.int .i64 t7) := cell_of_row _ _ _ _ _ (0, 0) HB5.out.r0
    have c1_0 : w5.cell? ⟨w.heap.size + 1, 0, none⟩ = some (.int .i64 3) := cell_of_row _ _ _ _ _ (0, 0) HB5.out.r1
    have c1_1 : w5.cell? ⟨w.heap.size + 1, 1, none⟩ = some (.int .i64 m) := cell_of_row _ _ _ _ _ (0, 0) HB5.out.r1
    have c1_2 : w5.cell? ⟨w.heap.size + 1, 2, none⟩ = some (.int .i64 n) := cell_of_row _ _ _ _ _ (0, 0) HB5.out.r1
    have c1_3 : w5.cell? ⟨w.heap.size + 1, 3, none⟩ = some (.bool d) := cell_of_row _ _ _ _ _ (0, 0) HB5.out.r1
    have c1_4 : w5.cell? ⟨w.heap.size + 1, 4, none⟩ = some (.int .i64 e) := cell_of_row _ _ _ _ _ (0, 0) HB5.out.r1
    go_wp2_with fail
    refine GhostV.ghost (fun γ L wx => GL (w5) (w.heap.size + 2) #[.int .i64 0, .int .i64 0, .int .i64 0, .bool false, .int .i64 0] #[.int .i64 3, .int .i64 m, .int .i64 n, .bool d, .int .i64 e] 25 #[.int .i64 0, .int .i64 3, .int .i64 0, .int .i64 4] 3 3 1 4 6 γ L wx) (by kernel_rfl) (by kernel_rfl) (fun γ => GL.start γ (HB5.out.r2)) ?_
    apply GhostV.walk_const (fun γ => by rfl)
    · intro γ L wx h1 h2 hx K hK
      have hrow := (hx.put.other (w.heap.size + 1) (Array.getElem?_eq_some_iff.1 HB5.out.r1).1 (by omega)).trans HB5.out.r1
      have z0 : wx.cell? ⟨w.heap.size + 1, 0, none⟩ = some (.int .i64 3) := cell_of_row _ _ _ _ _ (0, 0) hrow
      have z1 : wx.cell? ⟨w.heap.size + 1, 1, none⟩ = some (.int .i64 m) := cell_of_row _ _ _ _ _ (0, 0) hrow
      have z2 : wx.cell? ⟨w.heap.size + 1, 2, none⟩ = some (.int .i64 n) := cell_of_row _ _ _ _ _ (0, 0) hrow
      have z3 : wx.cell? ⟨w.heap.size + 1, 3, none⟩ = some (.bool d) := cell_of_row _ _ _ _ _ (0, 0) hrow
      have z4 : wx.cell? ⟨w.heap.size + 1, 4, none⟩ = some (.int .i64 e) := cell_of_row _ _ _ _ _ (0, 0) hrow
      have HH := Lib.hid hx
      have HK2 := Lib.hid hK
      clear hK h1 h2 hx
      go_simp
      first
        | exact HK2.out _ (HH.out.next _ (by decide) (by decide) (by decide) (Below.refl _ _))
    try simp only [Act.put, List.setIfInBounds_toArray, List.set_cons_succ, List.set_cons_zero]
    refine GhostV.walk_yes (fun b => b) (fun γ => by rfl) ?_ ?_
    · intro γ L wx h1 h2 hx K hK
      have hrow := (hx.put.other (w.heap.size + 1) (Array.getElem?_eq_some_iff.1 HB5.out.r1).1 (by omega)).trans HB5.out.r1
      have z0 : wx.cell? ⟨w.heap.size + 1, 0, none⟩ = some (.int .i64 3) := cell_of_row _ _ _ _ _ (0, 0) hrow
      have z1 : wx.cell? ⟨w.heap.size + 1, 1, none⟩ = some (.int .i64 m) := cell_of_row _ _ _ _ _ (0, 0) hrow
      have z2 : wx.cell? ⟨w.heap.size + 1, 2, none⟩ = some (.int .i64 n) := cell_of_row _ _ _ _ _ (0, 0) hrow
      have z3 : wx.cell? ⟨w.heap.size + 1, 3, none⟩ = some (.bool d) := cell_of_row _ _ _ _ _ (0, 0) hrow
      have z4 : wx.cell? ⟨w.heap.size + 1, 4, none⟩ = some (.int .i64 e) := cell_of_row _ _ _ _ _ (0, 0) hrow
      have HH := Lib.hid (hx.make h1 (by decide) (by decide))
      have HK2 := Lib.hid hK
      clear hK h1 h2 hx
      go_simp
      exact HK2.out _ _ HH.out
    try simp only [Act.put, List.setIfInBounds_toArray, List.set_cons_succ, List.set_cons_zero]
    apply GhostV.walk_const (fun γ => by rfl)
    · intro γ L wx h1 h2 hx K hK
      have hrow := (hx.put.other (w.heap.size + 1) (Array.getElem?_eq_some_iff.1 HB5.out.r1).1 (by omega)).trans HB5.out.r1
      have z0 : wx.cell? ⟨w.heap.size + 1, 0, none⟩ = some (.int .i64 3) := cell_of_row _ _ _ _ _ (0, 0) hrow
      have z1 : wx.cell? ⟨w.heap.size + 1, 1, none⟩ = some (.int .i64 m) := cell_of_row _ _ _ _ _ (0, 0) hrow
      have z2 : wx.cell? ⟨w.heap.size + 1, 2, none⟩ = some (.int .i64 n) := cell_of_row _ _ _ _ _ (0, 0) hrow
      have z3 : wx.cell? ⟨w.heap.size + 1, 3, none⟩ = some (.bool d) := cell_of_row _ _ _ _ _ (0, 0) hrow
      have z4 : wx.cell? ⟨w.heap.size + 1, 4, none⟩ = some (.int .i64 e) := cell_of_row _ _ _ _ _ (0, 0) hrow
      have HH := Lib.hid hx
      have HK2 := Lib.hid hK
      clear hK h1 h2 hx
      go_simp
      first
        | exact HK2.out _ (HH.out.next _ (by decide) (by decide) (by decide) (Below.refl _ _))
    try simp only [Act.put, List.setIfInBounds_toArray, List.set_cons_succ, List.set_cons_zero]
    apply GhostV.walk_const (fun γ => by rfl)
    · intro γ L wx h1 h2 hx K hK
      have hrow := (hx.put.other (w.heap.size + 1) (Array.getElem?_eq_some_iff.1 HB5.out.r1).1 (by omega)).trans HB5.out.r1
      have z0 : wx.cell? ⟨w.heap.size + 1, 0, none⟩ = some (.int .i64 3) := cell_of_row _ _ _ _ _ (0, 0) hrow
      have z1 : wx.cell? ⟨w.heap.size + 1, 1, none⟩ = some (.int .i64 m) := cell_of_row _ _ _ _ _ (0, 0) hrow
      have z2 : wx.cell? ⟨w.heap.size + 1, 2, none⟩ = some (.int .i64 n) := cell_of_row _ _ _ _ _ (0, 0) hrow
      have z3 : wx.cell? ⟨w.heap.size + 1, 3, none⟩ = some (.bool d) := cell_of_row _ _ _ _ _ (0, 0) hrow
      have z4 : wx.cell? ⟨w.heap.size + 1, 4, none⟩ = some (.int .i64 e) := cell_of_row _ _ _ _ _ (0, 0) hrow
      have HH := Lib.hid hx
      have HK2 := Lib.hid hK
      clear hK h1 h2 hx
      go_simp
      first
        | exact HK2.out _ (HH.out.next _ (by decide) (by decide) (by decide) (Below.refl _ _))
    try simp only [Act.put, List.setIfInBounds_toArray, List.set_cons_succ, List.set_cons_zero]
    refine GhostV.walk_yes (fun b => b) (fun γ => by rfl) ?_ ?_
    · intro γ L wx h1 h2 hx K hK
      obtain ⟨g, hg1, hg2, hg3, hg4⟩ := hx.lit (h2 1 (by kernel_rfl))
      simp only [hg2] at hK ⊢
      have hrow := (hx.put.other (w.heap.size + 1) (Array.getElem?_eq_some_iff.1 HB5.out.r1).1 (by omega)).trans HB5.out.r1
      have z0 : wx.cell? ⟨w.heap.size + 1, 0, none⟩ = some (.int .i64 3) := cell_of_row _ _ _ _ _ (0, 0) hrow
      have z1 : wx.cell? ⟨w.heap.size + 1, 1, none⟩ = some (.int .i64 m) := cell_of_row _ _ _ _ _ (0, 0) hrow
      have z2 : wx.cell? ⟨w.heap.size + 1, 2, none⟩ = some (.int .i64 n) := cell_of_row _ _ _ _ _ (0, 0) hrow
      have z3 : wx.cell? ⟨w.heap.size + 1, 3, none⟩ = some (.bool d) := cell_of_row _ _ _ _ _ (0, 0) hrow
      have z4 : wx.cell? ⟨w.heap.size + 1, 4, none⟩ = some (.int .i64 e) := cell_of_row _ _ _ _ _ (0, 0) hrow
      have HH := Lib.hid (hx.index (by decide) (by decide) (h2 1 (by kernel_rfl)) hg2)
      have HK2 := Lib.hid hK
      clear hK h1 h2 hx
      go_simp
      exact HK2.out _ _ HH.out
    try simp only [Act.put, List.setIfInBounds_toArray, List.set_cons_succ, List.set_cons_zero]
    apply GhostV.walk_const (fun γ => by rfl)
    · intro γ L wx h1 h2 hx K hK
      obtain ⟨g, hg1, -, hg3, hg4⟩ := hx.lit (hx.dep (h2 4 (by kernel_rfl)))
      replace hg4 := hg4 (h2 4 (by kernel_rfl))
      simp only [hg4] at hK ⊢
      have hgc := cell_of_row wx g 3 #[.int .i64 0, .int .i64 3, .int .i64 0, .int .i64 4] 3 (0, 0) hg3
      simp only [List.getElem?_toArray, List.getElem?_cons_zero, List.getElem?_cons_succ] at hgc
      have hrow := (hx.put.other (w.heap.size + 1) (Array.getElem?_eq_some_iff.1 HB5.out.r1).1 (by omega)).trans HB5.out.r1
      have z0 : wx.cell? ⟨w.heap.size + 1, 0, none⟩ = some (.int .i64 3) := cell_of_row _ _ _ _ _ (0, 0) hrow
      have z1 : wx.cell? ⟨w.heap.size + 1, 1, none⟩ = some (.int .i64 m) := cell_of_row _ _ _ _ _ (0, 0) hrow
      have z2 : wx.cell? ⟨w.heap.size + 1, 2, none⟩ = some (.int .i64 n) := cell_of_row _ _ _ _ _ (0, 0) hrow
      have z3 : wx.cell? ⟨w.heap.size + 1, 3, none⟩ = some (.bool d) := cell_of_row _ _ _ _ _ (0, 0) hrow
      have z4 : wx.cell? ⟨w.heap.size + 1, 4, none⟩ = some (.int .i64 e) := cell_of_row _ _ _ _ _ (0, 0) hrow
      have HH := Lib.hid hx
      have HK2 := Lib.hid hK
      clear hK h1 h2 hx
      go_simp
      first
        | exact HK2.out _ (HH.out.next _ (by decide) (by decide) (by decide) (Below.refl _ _))
    try simp only [Act.put, List.setIfInBounds_toArray, List.set_cons_succ, List.set_cons_zero]
    refine GhostV.walk_const (v := undef) (fun γ => by rfl) ?_ ?_
    · intro γ L wx h1 h2 hx K hK
      exact GL.store hx h1 (by decide) (by decide) (Array.getElem?_eq_some_iff.1 (HB5.out.r2)).1 25 _ _ rfl rfl rfl (by kernel_rfl) rfl (by kernel_rfl) (fun w2 h => hK _ (h _))
    try simp only [Act.put]
    apply GhostV.walk_const (fun γ => by rfl)
    · intro γ L wx h1 h2 hx K hK
      have hrow := (hx.put.other (w.heap.size + 1) (Array.getElem?_eq_some_iff.1 HB5.out.r1).1 (by omega)).trans HB5.out.r1
      have z0 : wx.cell? ⟨w.heap.size + 1, 0, none⟩ = some (.int .i64 3) := cell_of_row _ _ _ _ _ (0, 0) hrow
      have z1 : wx.cell? ⟨w.heap.size + 1, 1, none⟩ = some (.int .i64 m) := cell_of_row _ _ _ _ _ (0, 0) hrow
      have z2 : wx.cell? ⟨w.heap.size + 1, 2, none⟩ = some (.int .i64 n) := cell_of_row _ _ _ _ _ (0, 0) hrow
      have z3 : wx.cell? ⟨w.heap.size + 1, 3, none⟩ = some (.bool d) := cell_of_row _ _ _ _ _ (0, 0) hrow
      have z4 : wx.cell? ⟨w.heap.size + 1, 4, none⟩ = some (.int .i64 e) := cell_of_row _ _ _ _ _ (0, 0) hrow
      have HH := Lib.hid hx
      have HK2 := Lib.hid hK
      clear hK h1 h2 hx
      go_simp
      first
        | exact HK2.out _ (HH.out.next _ (by decide) (by decide) (by decide) (Below.refl _ _))
    try simp only [Act.put, List.setIfInBounds_toArray, List.set_cons_succ, List.set_cons_zero]
    refine GhostV.walk_nil (fun γ L w9 hall hx => ?_)
    have hp9 := hx.put1 (hall 6 (by decide))
    go_wp2_with fail
    exact bodyPost_ret (results_row_tmp Try.results8 _ _ _ _ _ (0, 0) _ rfl hp9.row Try.underlying25 rfl (by kernel_rfl)) rfl (⟨rfl, HB5.out.below.trans (hp9.below (by omega) HB5.out.below.size)⟩)
  · obtain rfl : c = 0 := by omega
    obtain rfl : (0 : Int) = n := hn
    have FM := Lib.hid (fun wx => refMore_any b wx hb)
    generalize Dr.more b = m at *
    clear hst hB hb hc he
    have HB0 := Lib.hid (bxs3 w (.cells #[.int .i64 t0, .int .i64 t1, .int .i64 t2, .int .i64 t3, .int .i64 t4, .int .i64 t5, .int .i64 t6, .int .i64 t7, .int .i64 t8] 23) (.cells #[.int .i64 3, .int .i64 b, .int .i64 0, .bool d, .int .i64 e] 25) (.cells #[.int .i64 0, .int .i64 0, .int .i64 0, .bool false, .int .i64 0] 25))
    go_enter Try.func8, Try.ntmps8
    go_wp2_with fail
    refine (F.out _).mono ?_
    rintro e w1 ⟨rfl, hb1⟩
    have HB1 := Lib.hid (HB0.out.next hb1)
    clear hb1 HB0
    have c0_6 : w1.cell? ⟨w.heap.size, 6, none⟩ = some (.int .i64 t6) := cell_of_row _ _ _ _ _ (0, 0) HB1.out.r0
    have c0_7 : w1.cell? ⟨w.heap.size, 7, none⟩ = some (.int .i64 t7) := cell_of_row _ _ _ _ _ (0, 0) HB1.out.r0
    have c1_0 : w1.cell? ⟨w.heap.size + 1, 0, none⟩ = some (.int .i64 3) := cell_of_row _ _ _ _ _ (0, 0) HB1.out.r1
    have c1_1 : w1.cell? ⟨w.heap.size + 1, 1, none⟩ = some (.int .i64 b) := cell_of_row _ _ _ _ _ (0, 0) HB1.out.r1
    have c1_2 : w1.cell? ⟨w.heap.size + 1, 2, none⟩ = some (.int .i64 0) := cell_of_row _ _ _ _ _ (0, 0) HB1.out.r1
    have c1_3 : w1.cell? ⟨w.heap.size + 1, 3, none⟩ = some (.bool d) := cell_of_row _ _ _ _ _ (0, 0) HB1.out.r1
    have c1_4 : w1.cell? ⟨w.heap.size + 1, 4, none⟩ = some (.int .i64 e) := cell_of_row _ _ _ _ _ (0, 0) HB1.out.r1
    go_wp2_with fail
    refine (FM.out _).mono ?_
    rintro e w2 ⟨rfl, hb2⟩
    have HB2 := Lib.hid (HB1.out.next hb2)
    clear c0_6 c0_7 c1_0 c1_1 c1_2 c1_3 c1_4 hb2 HB1
    have c0_6 : w2.cell? ⟨w.heap.size, 6, none⟩ = some (.int .i64 t6) := cell_of_row _ _ _ _ _ (0, 0) HB2.out.r0
    have c0_7 : w2.cell? ⟨w.heap.size, 7, none⟩ = some (.int .i64 t7) := cell_of_row _ _ _ _ _ (0, 0) HB2.out.r0
    have c1_0 : w2.cell? ⟨w.heap.size + 1, 0, none⟩ = some (.int .i64 3) := cell_of_row _ _ _ _ _ (0, 0) HB2.out.r1
    have c1_1 : w2.cell? ⟨w.heap.size + 1, 1, none⟩ = some (.int .i64 b) := cell_of_row _ _ _ _ _ (0, 0) HB2.out.r1
    have c1_2 : w2.cell? ⟨w.heap.size + 1, 2, none⟩ = some (.int .i64 0) := cell_of_row _ _ _ _ _ (0, 0) HB2.out.r1
    have c1_3 : w2.cell? ⟨w.heap.size + 1, 3, none⟩ = some (.bool d) := cell_of_row _ _ _ _ _ (0, 0) HB2.out.r1
    have c1_4 : w2.cell? ⟨w.heap.size + 1, 4, none⟩ = some (.int .i64 e) := cell_of_row _ _ _ _ _ (0, 0) HB2.out.r1
    go_wp2_with (with_reducible show wpList _ _ _ (Oper.mk _ (.store 3 _ _) _ _ _ _ :: _) _ _; refine Hid.out ?_)
    refine Lib.hid ?_
    refine wpList_putCell rfl 3 _ _ rfl (w.heap.size + 1) 1 (.int .i64 m) _ _ 25 rfl rfl HB2.out.r1 (by kernel_rfl) (by simp) rfl rfl rfl ?_
    intro w3 hr3 hg3
    have HB3 : Hid (Bx w [(w.heap.size, .cells #[.int .i64 t0, .int .i64 t1, .int .i64 t2, .int .i64 t3, .int .i64 t4, .int .i64 t5, .int .i64 t6, .int .i64 t7, .int .i64 t8] 23 (0, 0)), (w.heap.size + 1, .cells #[.int .i64 3, .int .i64 m, .int .i64 0, .bool d, .int .i64 e] 25 (0, 0)), (w.heap.size + 2, .cells #[.int .i64 0, .int .i64 0, .int .i64 0, .bool false, .int .i64 0] 25 (0, 0))] w3) := Lib.hid (HB2.out.put (by omega) hg3.out hr3.out (by simp only [List.mem_cons, List.not_mem_nil, or_false]; rintro p (rfl | rfl | rfl) <;> simp <;> omega))
    clear c0_6 c0_7 c1_0 c1_1 c1_2 c1_3 c1_4 hr3 hg3 HB2
    have c0_6 : w3.cell? ⟨w.heap.size, 6, none⟩ = some (.int .i64 t6) := cell_of_row _ _ _ _ _ (0, 0) HB3.out.r0
    have c0_7 : w3.cell? ⟨w.heap.size, 7, none⟩ = some (.int .i64 t7) := cell_of_row _ _ _ _ _ (0, 0) HB3.out.r0
    have c1_0 : w3.cell? ⟨w.heap.size + 1, 0, none⟩ = some (.int .i64 3) := cell_of_row _ _ _ _ _ (0, 0) HB3.out.r1
    have c1_1 : w3.cell? ⟨w.heap.size + 1, 1, none⟩ = some (.int .i64 m) := cell_of_row _ _ _ _ _ (0, 0) HB3.out.r1
    have c1_2 : w3.cell? ⟨w.heap.size + 1, 2, none⟩ = some (.int .i64 0) := cell_of_row _ _ _ _ _ (0, 0) HB3.out.r1
    have c1_3 : w3.cell? ⟨w.heap.size + 1, 3, none⟩ = some (.bool d) := cell_of_row _ _ _ _ _ (0, 0) HB3.out.r1
    have c1_4 : w3.cell? ⟨w.heap.size + 1, 4, none⟩ = some (.int .i64 e) := cell_of_row _ _ _ _ _ (0, 0) HB3.out.r1
    go_wp2_with fail
    refine GhostV.ghost (fun γ L wx => GL (w3) (w.heap.size + 2) #[.int .i64 0, .int .i64 0, .int .i64 0, .bool false, .int .i64 0] #[.int .i64 3, .int .i64 m, .int .i64 0, .bool d, .int .i64 e] 25 #[.int .i64 0, .int .i64 3, .int .i64 0, .int .i64 4] 3 3 1 4 6 γ L wx) (by kernel_rfl) (by kernel_rfl) (fun γ => GL.start γ (HB3.out.r2)) ?_
    apply GhostV.walk_const (fun γ => by rfl)
    · intro γ L wx h1 h2 hx K hK
      have hrow := (hx.put.other (w.heap.size + 1) (Array.getElem?_eq_some_iff.1 HB3.out.r1).1 (by omega)).trans HB3.out.r1
      have z0 : wx.cell? ⟨w.heap.size + 1, 0, none⟩ = some (.int .i64 3) := cell_of_row _ _ _ _ _ (0, 0) hrow
      have z1 : wx.cell? ⟨w.heap.size + 1, 1, none⟩ = some (.int .i64 m) := cell_of_row _ _ _ _ _ (0, 0) hrow
      have z2 : wx.cell? ⟨w.heap.size + 1, 2, none⟩ = some (.int .i64 0) := cell_of_row _ _ _ _ _ (0, 0) hrow
      have z3 : wx.cell? ⟨w.heap.size + 1, 3, none⟩ = some (.bool d) := cell_of_row _ _ _ _ _ (0, 0) hrow
      have z4 : wx.cell? ⟨w.heap.size + 1, 4, none⟩ = some (.int .i64 e) := cell_of_row _ _ _ _ _ (0, 0) hrow
      have HH := Lib.hid hx
      have HK2 := Lib.hid hK
      clear hK h1 h2 hx
      go_simp
      first
        | exact HK2.out _ (HH.out.next _ (by decide) (by decide) (by decide) (Below.refl _ _))
    try simp only [Act.put, List.setIfInBounds_toArray, List.set_cons_succ, List.set_cons_zero]
    refine GhostV.walk_yes (fun b => b) (fun γ => by rfl) ?_ ?_
    · intro γ L wx h1 h2 hx K hK
      have hrow := (hx.put.other (w.heap.size + 1) (Array.getElem?_eq_some_iff.1 HB3.out.r1).1 (by omega)).trans HB3.out.r1
      have z0 : wx.cell? ⟨w.heap.size + 1, 0, none⟩ = some (.int .i64 3) := cell_of_row _ _ _ _ _ (0, 0) hrow
      have z1 : wx.cell? ⟨w.heap.size + 1, 1, none⟩ = some (.int .i64 m) := cell_of_row _ _ _ _ _ (0, 0) hrow
      have z2 : wx.cell? ⟨w.heap.size + 1, 2, none⟩ = some (.int .i64 0) := cell_of_row _ _ _ _ _ (0, 0) hrow
      have z3 : wx.cell? ⟨w.heap.size + 1, 3, none⟩ = some (.bool d) := cell_of_row _ _ _ _ _ (0, 0) hrow
      have z4 : wx.cell? ⟨w.heap.size + 1, 4, none⟩ = some (.int .i64 e) := cell_of_row _ _ _ _ _ (0, 0) hrow
      have HH := Lib.hid (hx.make h1 (by decide) (by decide))
      have HK2 := Lib.hid hK
      clear hK h1 h2 hx
      go_simp
      exact HK2.out _ _ HH.out
    try simp only [Act.put, List.setIfInBounds_toArray, List.set_cons_succ, List.set_cons_zero]
    apply GhostV.walk_const (fun γ => by rfl)
    · intro γ L wx h1 h2 hx K hK
      have hrow := (hx.put.other (w.heap.size + 1) (Array.getElem?_eq_some_iff.1 HB3.out.r1).1 (by omega)).trans HB3.out.r1
      have z0 : wx.cell? ⟨w.heap.size + 1, 0, none⟩ = some (.int .i64 3) := cell_of_row _ _ _ _ _ (0, 0) hrow
      have z1 : wx.cell? ⟨w.heap.size + 1, 1, none⟩ = some (.int .i64 m) := cell_of_row _ _ _ _ _ (0, 0) hrow
      have z2 : wx.cell? ⟨w.heap.size + 1, 2, none⟩ = some (.int .i64 0) := cell_of_row _ _ _ _ _ (0, 0) hrow
      have z3 : wx.cell? ⟨w.heap.size + 1, 3, none⟩ = some (.bool d) := cell_of_row _ _ _ _ _ (0, 0) hrow
      have z4 : wx.cell? ⟨w.heap.size + 1, 4, none⟩ = some (.int .i64 e) := cell_of_row _ _ _ _ _ (0, 0) hrow
      have HH := Lib.hid hx
      have HK2 := Lib.hid hK
      clear hK h1 h2 hx
      go_simp
      first
        | exact HK2.out _ (HH.out.next _ (by decide) (by decide) (by decide) (Below.refl _ _))
    try simp only [Act.put, List.setIfInBounds_toArray, List.set_cons_succ, List.set_cons_zero]
    apply GhostV.walk_const (fun γ => by rfl)
    · intro γ L wx h1 h2 hx K hK
      have hrow := (hx.put.other (w.heap.size + 1) (Array.getElem?_eq_some_iff.1 HB3.out.r1).1 (by omega)).trans HB3.out.r1
      have z0 : wx.cell? ⟨w.heap.size + 1, 0, none⟩ = some (.int .i64 3) := cell_of_row _ _ _ _ _ (0, 0) hrow
      have z1 : wx.cell? ⟨w.heap.size + 1, 1, none⟩ = some (.int .i64 m) := cell_of_row _ _ _ _ _ (0, 0) hrow
      have z2 : wx.cell? ⟨w.heap.size + 1, 2, none⟩ = some (.int .i64 0) := cell_of_row _ _ _ _ _ (0, 0) hrow
      have z3 : wx.cell? ⟨w.heap.size + 1, 3, none⟩ = some (.bool d) := cell_of_row _ _ _ _ _ (0, 0) hrow
      have z4 : wx.cell? ⟨w.heap.size + 1, 4, none⟩ = some (.int .i64 e) := cell_of_row _ _ _ _ _ (0, 0) hrow
      have HH := Lib.hid hx
      have HK2 := Lib.hid hK
      clear hK h1 h2 hx
      go_simp
      first
        | exact HK2.out _ (HH.out.next _ (by decide) (by decide) (by decide) (Below.refl _ _))
    try simp only [Act.put, List.setIfInBounds_toArray, List.set_cons_succ, List.set_cons_zero]
    refine GhostV.walk_yes (fun b => b) (fun γ => by rfl) ?_ ?_
    · intro γ L wx h1 h2 hx K hK
      obtain ⟨g, hg1, hg2, hg3, hg4⟩ := hx.lit (h2 1 (by kernel_rfl))
      simp only [hg2] at hK ⊢
      have hrow := (hx.put.other (w.heap.size + 1) (Array.getElem?_eq_some_iff.1 HB3.out.r1).1 (by omega)).trans HB3.out.r1
      have z0 : wx.cell? ⟨w.heap.size + 1, 0, none⟩ = some (.int .i64 3) := cell_of_row _ _ _ _ _ (0, 0) hrow
      have z1 : wx.cell? ⟨w.heap.size + 1, 1, none⟩ = some (.int .i64 m) := cell_of_row _ _ _ _ _ (0, 0) hrow
      have z2 : wx.cell? ⟨w.heap.size + 1, 2, none⟩ = some (.int .i64 0) := cell_of_row _ _ _ _ _ (0, 0) hrow
      have z3 : wx.cell? ⟨w.heap.size + 1, 3, none⟩ = some (.bool d) := cell_of_row _ _ _ _ _ (0, 0) hrow
      have z4 : wx.cell? ⟨w.heap.size + 1, 4, none⟩ = some (.int .i64 e) := cell_of_row _ _ _ _ _ (0, 0) hrow
      have HH := Lib.hid (hx.index (by decide) (by decide) (h2 1 (by kernel_rfl)) hg2)
      have HK2 := Lib.hid hK
      clear hK h1 h2 hx
      go_simp
      exact HK2.out _ _ HH.out
    try simp only [Act.put, List.setIfInBounds_toArray, List.set_cons_succ, List.set_cons_zero]
    apply GhostV.walk_const (fun γ => by rfl)
    · intro γ L wx h1 h2 hx K hK
      obtain ⟨g, hg1, -, hg3, hg4⟩ := hx.lit (hx.dep (h2 4 (by kernel_rfl)))
      replace hg4 := hg4 (h2 4 (by kernel_rfl))
      simp only [hg4] at hK ⊢
      have hgc := cell_of_row wx g 3 #[.int .i64 0, .int .i64 3, .int .i64 0, .int .i64 4] 3 (0, 0) hg3
      simp only [List.getElem?_toArray, List.getElem?_cons_zero, List.getElem?_cons_succ] at hgc
      have hrow := (hx.put.other (w.heap.size + 1) (Array.getElem?_eq_some_iff.1 HB3.out.r1).1 (by omega)).trans HB3.out.r1
      have z0 : wx.cell? ⟨w.heap.size + 1, 0, none⟩ = some (.int .i64 3) := cell_of_row _ _ _ _ _ (0, 0) hrow
      have z1 : wx.cell? ⟨w.heap.size + 1, 1, none⟩ = some (.int .i64 m) := cell_of_row _ _ _ _ _ (0, 0) hrow
      have z2 : wx.cell? ⟨w.heap.size + 1, 2, none⟩ = some (.int .i64 0) := cell_of_row _ _ _ _ _ (0, 0) hrow
      have z3 : wx.cell? ⟨w.heap.size + 1, 3, none⟩ = some (.bool d) := cell_of_row _ _ _ _ _ (0, 0) hrow
      have z4 : wx.cell? ⟨w.heap.size + 1, 4, none⟩ = some (.int .i64 e) := cell_of_row _ _ _ _ _ (0, 0) hrow
      have HH := Lib.hid hx
      have HK2 := Lib.hid hK
      clear hK h1 h2 hx
      go_simp
      first
        | exact HK2.out _ (HH.out.next _ (by decide) (by decide) (by decide) (Below.refl _ _))
    try simp only [Act.put, List.setIfInBounds_toArray, List.set_cons_succ, List.set_cons_zero]
    refine GhostV.walk_const (v := undef) (fun γ => by rfl) ?_ ?_
    · intro γ L wx h1 h2 hx K hK
      exact GL.store hx h1 (by decide) (by decide) (Array.getElem?_eq_some_iff.1 (HB3.out.r2)).1 25 _ _ rfl rfl rfl (by kernel_rfl) rfl (by kernel_rfl) (fun w2 h => hK _ (h _))
    try simp only [Act.put]
    apply GhostV.walk_const (fun γ => by rfl)
    · intro γ L wx h1 h2 hx K hK
      have hrow := (hx.put.other (w.heap.size + 1) (Array.getElem?_eq_some_iff.1 HB3.out.r1).1 (by omega)).trans HB3.out.r1
      have z0 : wx.cell? ⟨w.heap.size + 1, 0, none⟩ = some (.int .i64 3) := cell_of_row _ _ _ _ _ (0, 0) hrow
      have z1 : wx.cell? ⟨w.heap.size + 1, 1, none⟩ = some (.int .i64 m) := cell_of_row _ _ _ _ _ (0, 0) hrow
      have z2 : wx.cell? ⟨w.heap.size + 1, 2, none⟩ = some (.int .i64 0) := cell_of_row _ _ _ _ _ (0, 0) hrow
      have z3 : wx.cell? ⟨w.heap.size + 1, 3, none⟩ = some (.bool d) := cell_of_row _ _ _ _ _ (0, 0) hrow
      have z4 : wx.cell? ⟨w.heap.size + 1, 4, none⟩ = some (.int .i64 e) := cell_of_row _ _ _ _ _ (0, 0) hrow
      have HH := Lib.hid hx
      have HK2 := Lib.hid hK
      clear hK h1 h2 hx
      go_simp
      first
        | exact HK2.out _ (HH.out.next _ (by decide) (by decide) (by decide) (Below.refl _ _))
    try simp only [Act.put, List.setIfInBounds_toArray, List.set_cons_succ, List.set_cons_zero]
    refine GhostV.walk_nil (fun γ L w9 hall hx => ?_)
    have hp9 := hx.put1 (hall 6 (by decide))
    go_wp2_with fail
    exact bodyPost_ret (results_row_tmp Try.results8 _ _ _ _ _ (0, 0) _ rfl hp9.row Try.underlying25 rfl (by kernel_rfl)) rfl (⟨rfl, HB3.out.below.trans (hp9.below (by omega) HB3.out.below.size)⟩)
set_option maxHeartbeats 2000000 in
theorem rstep_any (t0 t1 t2 t3 t4 t5 t6 t7 t8 : Int) (a b c : Int) (d : Bool) (e : Int) (k : Int) (bl wt : Bool) (w : World) :
    Calls Try.prog 8 #[.agg #[.int .i64 t0, .int .i64 t1, .int .i64 t2, .int .i64 t3, .int .i64 t4, .int .i64 t5, .int .i64 t6, .int .i64 t7, .int .i64 t8], .agg #[.int .i64 a, .int .i64 b, .int .i64 c, .bool d, .int .i64 e], .int .i64 k, .bool bl, .bool wt] w fun ee w' => ee = .returned (.tuple #[(Dr.stepF t6 t7 ⟨a, b, c, d, e⟩ k bl wt).1.agg, .int .i64 (Dr.stepF t6 t7 ⟨a, b, c, d, e⟩ k bl wt).2]) ∧ Below w.heap.size w w' := by
  by_cases hB : Dr.isB ⟨a, b, c, d, e⟩ = true
  · rw [Dr.stepF_of hB]
    by_cases h0 : a = 0
    · have hz := Dr.isB_zero hB h0
      simp only [Dr.zero, Dr.mk.injEq] at hz
      obtain ⟨rfl, rfl, rfl, rfl, rfl⟩ := hz
      have hs : Dr.stepG t6 t7 ⟨0, 0, 0, false, 0⟩ k bl wt = (if wt = true then (⟨1, 0, 0, false, 0⟩, 3) else (Dr.zero, 0)) := by simp [Dr.stepG]
      have := rstep_idle t0 t1 t2 t3 t4 t5 t6 t7 t8 k bl wt w
      rw [hs]
      cases wt <;> exact this
    · have h13 : a = 1 ∨ a = 2 ∨ a = 3 := by have := ((Dr.isB_iff h0).1 hB).1; simp only at this; omega
      obtain ⟨n, hn⟩ : ∃ n, Dr.next c = n := ⟨_, rfl⟩
      rcases h13 with rfl | rfl | rfl
      · by_cases hd : k = 1
        · subst hd
          rw [show Dr.stepG t6 t7 _ 1 bl wt = (⟨2, 0, (if n ≤ 1 then 1 else n), d, e⟩, 0) by simp [Dr.stepG, hn]]
          exact rstep_c1 t0 t1 t2 t3 t4 t5 t6 t7 t8 b c n d e bl wt w hB hn
        · by_cases hl : t7 < n
          · rw [show Dr.stepG t6 t7 _ k bl wt = (⟨3, 0, n, true, e⟩, 5) by simp [Dr.stepG, hn, hd, hl]]
            exact rstep_c2 t0 t1 t2 t3 t4 t5 t6 t7 t8 b c n d e k bl wt w hB hn hd hl
          · rw [show Dr.stepG t6 t7 _ k bl wt = (⟨1, Dr.more b, n, d, e⟩, 3) by simp [Dr.stepG, hn, hd, hl]]
            exact rstep_c3 t0 t1 t2 t3 t4 t5 t6 t7 t8 b c n d e k bl wt w hB hn hd hl
      · by_cases hl : t7 < n
        · rw [show Dr.stepG t6 t7 _ k bl wt = (⟨3, 0, n, true, e⟩, 5) by simp [Dr.stepG, hn, hl]]
          exact rstep_c4 t0 t1 t2 t3 t4 t5 t6 t7 t8 b c n d e k bl wt w hB hn hl
        · by_cases hk : t6 ≤ b + 1 ∧ bl = false
          · obtain ⟨hk, rfl⟩ := hk
            rw [show Dr.stepG t6 t7 _ k false wt = (⟨3, 0, n, d, e⟩, 4) by simp [Dr.stepG, hn, hl, hk]]
            exact rstep_c5 t0 t1 t2 t3 t4 t5 t6 t7 t8 b c n d e k wt w hB hn hl hk
          · rw [show Dr.stepG t6 t7 _ k bl wt = (⟨2, Dr.more b, n, d, e⟩, 0) from by simp only [Dr.stepG, hn, if_neg hl, if_neg hk]; rfl]
            exact rstep_c6 t0 t1 t2 t3 t4 t5 t6 t7 t8 b c n d e k bl wt w hB hn hl hk
      · by_cases hd : k = 2
        · subst hd
          rw [show Dr.stepG t6 t7 _ 2 bl wt = (⟨0, 0, 0, false, 0⟩, 0) by simp [Dr.stepG, Dr.zero]]
          exact rstep_c7 t0 t1 t2 t3 t4 t5 t6 t7 t8 b c n d e bl wt w hB hn
        · by_cases hl : t7 < n
          · cases d
            · rw [show Dr.stepG t6 t7 _ k bl wt = (⟨3, 0, n, true, e⟩, 5) by simp [Dr.stepG, hn, hd, hl]]
              exact rstep_c9 t0 t1 t2 t3 t4 t5 t6 t7 t8 b c n e k bl wt w hB hn hd hl
            · rw [show Dr.stepG t6 t7 _ k bl wt = (⟨3, Dr.more b, n, true, e⟩, 5) by simp [Dr.stepG, hn, hd, hl]]
              exact rstep_c8 t0 t1 t2 t3 t4 t5 t6 t7 t8 b c n e k bl wt w hB hn hd hl
          · cases bl
            · rw [show Dr.stepG t6 t7 _ k false wt = (⟨3, Dr.more b, n, d, e⟩, 4) by simp [Dr.stepG, hn, hd, hl]]
              exact rstep_c11 t0 t1 t2 t3 t4 t5 t6 t7 t8 b c n d e k wt w hB hn hd hl
            · rw [show Dr.stepG t6 t7 _ k true wt = (⟨1, 0, n, d, Dr.more e⟩, 3) by simp [Dr.stepG, hn, hd, hl]]
              exact rstep_c10 t0 t1 t2 t3 t4 t5 t6 t7 t8 b c n d e k wt w hB hn hd hl
  · have hs : Dr.stepF t6 t7 ⟨a, b, c, d, e⟩ k bl wt = (if wt = true then (⟨1, 0, 0, false, 0⟩, 3) else (Dr.zero, 0)) := by unfold Dr.stepF; rw [if_neg hB]; simp [Dr.stepG, Dr.zero]
    have := rstep_no t0 t1 t2 t3 t4 t5 t6 t7 t8 a b c d e k bl wt w (Bool.eq_false_iff.2 hB)
    rw [hs]
    cases wt <;> exact this
end Go.Proofs.Ythniolaeicmjlaa
