/- The law DoorSteps: the state and the command of a tick, for arbitrary states, cars and reports. No condition. -/
import Derived.Test.YthniolaeicmjlaaDrSane
import Derived.Test.YthniolaeicmjlaaDrRefStep
import Derived.Test.YthniolaeicmjlaaDrOpen
import Derived.Test.YthniolaeicmjlaaDecls2
import Derived.Test.YthniolaeicmjlaaGhostS
import Derived.Test.YthniolaeicmjlaaBx2
import Derived.Deep.CutRange
namespace Go.Proofs.Ythniolaeicmjlaa
open Go.RowKit Go.ChangeShapes Go.WideShapes Go.ChangeAt Ghost

theorem rstep_to (t0 t1 t2 t3 t4 t5 t6 t7 t8 : Int) (a b c : Int) (d : Bool) (e : Int) (k : Int) (bl wt : Bool) (a' b' c' : Int) (d' : Bool) (e' m : Int) (w : World) (h : Dr.stepF t6 t7 ⟨a, b, c, d, e⟩ k bl wt = (⟨a', b', c', d', e'⟩, m)) :
    Calls Try.prog 8 #[.agg #[.int .i64 t0, .int .i64 t1, .int .i64 t2, .int .i64 t3, .int .i64 t4, .int .i64 t5, .int .i64 t6, .int .i64 t7, .int .i64 t8], .agg #[.int .i64 a, .int .i64 b, .int .i64 c, .bool d, .int .i64 e], .int .i64 k, .bool bl, .bool wt] w fun ee w' => ee = .returned (.tuple #[.agg #[.int .i64 a', .int .i64 b', .int .i64 c', .bool d', .int .i64 e'], .int .i64 m]) ∧ Below w.heap.size w w' := by
  have := rstep_any t0 t1 t2 t3 t4 t5 t6 t7 t8 a b c d e k bl wt w
  rw [h] at this
  exact this
set_option maxRecDepth 100000 in
set_option maxHeartbeats 8000000 in
theorem lawDoorSteps_walk (cd : CarD) (s : Dr) (t : Tk) (w : World) :
    Calls Try.prog 3 #[cd.ag, s.ag, t.agg] w fun e w' => e = .returned (.bool true) ∧ Below w.heap.size w w' := by
  obtain ⟨t0, t1, t2, t3, t4, t5, t6, t7, t8⟩ := cd
  obtain ⟨s1, s2, s3, s4, s5⟩ := s
  obtain ⟨dd, bl, wt⟩ := t
  change Calls Try.prog 3 #[.agg #[.int .i64 t0, .int .i64 t1, .int .i64 t2, .int .i64 t3, .int .i64 t4, .int .i64 t5, .int .i64 t6, .int .i64 t7, .int .i64 t8], .agg #[.int .i64 s1, .int .i64 s2, .int .i64 s3, .bool s4, .int .i64 s5], .agg #[.int .i64 dd, .bool bl, .bool wt]] w _
  have FN := Lib.hid (fun wx => sane12_any wx)
  obtain ⟨b2, hb2⟩ : ∃ b2, bits .and .i64 s2 255 = b2 := ⟨_, rfl⟩
  obtain ⟨b3, hb3⟩ : ∃ b3, bits .and .i64 s3 127 = b3 := ⟨_, rfl⟩
  obtain ⟨b5, hb5⟩ : ∃ b5, bits .and .i64 s5 15 = b5 := ⟨_, rfl⟩
  have HBI := Lib.hid (And.intro hb2 (And.intro hb3 hb5))
  clear hb2 hb3 hb5
  have HB0 := Lib.hid (bxs3 w (.cells #[.int .i64 t0, .int .i64 t1, .int .i64 t2, .int .i64 t3, .int .i64 t4, .int .i64 t5, .int .i64 t6, .int .i64 t7, .int .i64 t8] 23) (.cells #[.int .i64 s1, .int .i64 s2, .int .i64 s3, .bool s4, .int .i64 s5] 25) (.cells #[.int .i64 dd, .bool bl, .bool wt] 27))
  go_enter Try.func3, Try.ntmps3
  go_wp2_with fail
  go_loopw [7] (fun vq wr => ∃ q : Int, -1 ≤ q ∧ q ≤ 5 ∧ vq = .int .i64 q ∧ Bx w [(w.heap.size, .cells #[.int .i64 t0, .int .i64 t1, .int .i64 t2, .int .i64 t3, .int .i64 t4, .int .i64 t5, .int .i64 t6, .int .i64 t7, .int .i64 t8] 23 (0, 0)), (w.heap.size + 1, .cells #[.int .i64 s1, .int .i64 s2, .int .i64 s3, .bool s4, .int .i64 s5] 25 (0, 0)), (w.heap.size + 2, .cells #[.int .i64 dd, .bool bl, .bool wt] 27 (0, 0))] wr) (fun vq _ => (5 - intOf vq).toNat)
  case atStart => exact ⟨-1, by omega, by omega, rfl, HB0.out⟩
  case round =>
    obtain ⟨q, hq1, hq2, rfl, hbr⟩ := hrel
    have HBQ := Lib.hid hbr
    clear hbr HB0
    by_cases hql : q < 5
    · have hqB : decide (q < 5) = true := decide_eq_true hql
      have HQ := Lib.hid (And.intro hq1 hql)
      go_wp2_with fail
      go_loopw [8] (fun vk wr => ∃ k : Nat, k ≤ 3 ∧ vk = .int .i64 k ∧ Bx w [(w.heap.size, .cells #[.int .i64 t0, .int .i64 t1, .int .i64 t2, .int .i64 t3, .int .i64 t4, .int .i64 t5, .int .i64 t6, .int .i64 t7, .int .i64 t8] 23 (0, 0)), (w.heap.size + 1, .cells #[.int .i64 s1, .int .i64 s2, .int .i64 s3, .bool s4, .int .i64 s5] 25 (0, 0)), (w.heap.size + 2, .cells #[.int .i64 dd, .bool bl, .bool wt] 27 (0, 0))] wr) (fun vk _ => 3 - (intOf vk).toNat)
      case atStart => exact ⟨0, by omega, rfl, HBQ.out⟩
      case round =>
        obtain ⟨k, hk, rfl, hbr⟩ := hrel
        have HBR := Lib.hid hbr
        clear hbr HBQ
        by_cases hkl : k < 3
        · have hkI : (k : Int) < 3 := by omega
          have hkB : decide ((k : Int) < 3) = true := decide_eq_true hkI
          go_wp2_with fail
          have q0 : w.heap.size < wr.heap.size := (Array.getElem?_eq_some_iff.1 HBR.out.r0).1
          have q1 : w.heap.size + 1 < wr.heap.size := (Array.getElem?_eq_some_iff.1 HBR.out.r1).1
          have q2 : w.heap.size + 2 < wr.heap.size := (Array.getElem?_eq_some_iff.1 HBR.out.r2).1
          refine Ghost.ghost (fun γ L wx => Decls (wr).heap.size (wr) [(⟨2, 4, 25, #[.int .i64 0, .int .i64 0, .int .i64 0, .bool false, .int .i64 0], #[.int .i64 s1, .int .i64 s2, .int .i64 s3, .bool s4, .int .i64 s5]⟩ : Decl), (⟨3, 5, 27, #[.int .i64 0, .bool false, .bool false], #[.int .i64 dd, .bool bl, .bool wt]⟩ : Decl)] γ L wx) (by kernel_rfl) (by kernel_rfl) (fun γ => Decls.start _ γ (Below.refl _ _).drew (Nat.le_refl _)) ?_
          apply Ghost.walk_const (fun γ => by rfl)
          · intro γ L wx h1 h2 hx K hK
            have HXx := HBR.out.next hx.below
            have z1_0 : wx.cell? ⟨w.heap.size + 1, 0, none⟩ = some (.int .i64 s1) := cell_of_row _ _ _ _ _ (0, 0) HXx.r1
            have z1_1 : wx.cell? ⟨w.heap.size + 1, 1, none⟩ = some (.int .i64 s2) := cell_of_row _ _ _ _ _ (0, 0) HXx.r1
            have z1_2 : wx.cell? ⟨w.heap.size + 1, 2, none⟩ = some (.int .i64 s3) := cell_of_row _ _ _ _ _ (0, 0) HXx.r1
            have z1_3 : wx.cell? ⟨w.heap.size + 1, 3, none⟩ = some (.bool s4) := cell_of_row _ _ _ _ _ (0, 0) HXx.r1
            have z1_4 : wx.cell? ⟨w.heap.size + 1, 4, none⟩ = some (.int .i64 s5) := cell_of_row _ _ _ _ _ (0, 0) HXx.r1
            have z2_0 : wx.cell? ⟨w.heap.size + 2, 0, none⟩ = some (.int .i64 dd) := cell_of_row _ _ _ _ _ (0, 0) HXx.r2
            have z2_1 : wx.cell? ⟨w.heap.size + 2, 1, none⟩ = some (.bool bl) := cell_of_row _ _ _ _ _ (0, 0) HXx.r2
            have z2_2 : wx.cell? ⟨w.heap.size + 2, 2, none⟩ = some (.bool wt) := cell_of_row _ _ _ _ _ (0, 0) HXx.r2
            have HK2 := Lib.hid hK
            have HX := Lib.hid hx
            clear hK h1 h2 hx
            go_simp
            first
              | exact HK2.out _ (HX.out.quiet 0 (by rfl) (Below.refl _ _))
          simp only [Act.put, List.setIfInBounds_toArray, List.set_cons_succ, List.set_cons_zero]
          apply Ghost.walk_const (fun γ => by rfl)
          · intro γ L wx h1 h2 hx K hK
            have HXx := HBR.out.next hx.below
            have z1_0 : wx.cell? ⟨w.heap.size + 1, 0, none⟩ = some (.int .i64 s1) := cell_of_row _ _ _ _ _ (0, 0) HXx.r1
            have z1_1 : wx.cell? ⟨w.heap.size + 1, 1, none⟩ = some (.int .i64 s2) := cell_of_row _ _ _ _ _ (0, 0) HXx.r1
            have z1_2 : wx.cell? ⟨w.heap.size + 1, 2, none⟩ = some (.int .i64 s3) := cell_of_row _ _ _ _ _ (0, 0) HXx.r1
            have z1_3 : wx.cell? ⟨w.heap.size + 1, 3, none⟩ = some (.bool s4) := cell_of_row _ _ _ _ _ (0, 0) HXx.r1
            have z1_4 : wx.cell? ⟨w.heap.size + 1, 4, none⟩ = some (.int .i64 s5) := cell_of_row _ _ _ _ _ (0, 0) HXx.r1
            have z2_0 : wx.cell? ⟨w.heap.size + 2, 0, none⟩ = some (.int .i64 dd) := cell_of_row _ _ _ _ _ (0, 0) HXx.r2
            have z2_1 : wx.cell? ⟨w.heap.size + 2, 1, none⟩ = some (.bool bl) := cell_of_row _ _ _ _ _ (0, 0) HXx.r2
            have z2_2 : wx.cell? ⟨w.heap.size + 2, 2, none⟩ = some (.bool wt) := cell_of_row _ _ _ _ _ (0, 0) HXx.r2
            have HK2 := Lib.hid hK
            have HX := Lib.hid hx
            clear hK h1 h2 hx
            go_simp
            first
              | exact HK2.out _ (HX.out.quiet 0 (by rfl) (Below.refl _ _))
          simp only [Act.put, List.setIfInBounds_toArray, List.set_cons_succ, List.set_cons_zero]
          refine Ghost.walk_yes (fun b => .pointer (some ⟨b, 0, none⟩)) (fun γ => by rfl) ?_ ?_
          · intro γ L wx h1 h2 hx K hK
            have HK2 := Lib.hid hK
            clear hK h2
            have hL : L (⟨2, 4, 25, #[.int .i64 0, .int .i64 0, .int .i64 0, .bool false, .int .i64 0], #[.int .i64 s1, .int .i64 s2, .int .i64 s3, .bool s4, .int .i64 s5]⟩ : Decl).al = false := h1
            clear h1
            go_simp
            exact HK2.out wx.heap.size _ (hx.alloc (⟨2, 4, 25, #[.int .i64 0, .int .i64 0, .int .i64 0, .bool false, .int .i64 0], #[.int .i64 s1, .int .i64 s2, .int .i64 s3, .bool s4, .int .i64 s5]⟩ : Decl) (d2_m1 _ _) hL (by rfl) (d2_al1 (by show (3 : Nat) ≠ 2; decide)))
          simp only [Act.put, List.setIfInBounds_toArray, List.set_cons_succ, List.set_cons_zero]
          refine Ghost.walk_yes (fun b => .pointer (some ⟨b, 0, none⟩)) (fun γ => by rfl) ?_ ?_
          · intro γ L wx h1 h2 hx K hK
            have HK2 := Lib.hid hK
            clear hK h2
            have hL : L (⟨3, 5, 27, #[.int .i64 0, .bool false, .bool false], #[.int .i64 dd, .bool bl, .bool wt]⟩ : Decl).al = false := h1
            clear h1
            go_simp
            exact HK2.out wx.heap.size _ (hx.alloc (⟨3, 5, 27, #[.int .i64 0, .bool false, .bool false], #[.int .i64 dd, .bool bl, .bool wt]⟩ : Decl) (d2_m2 _ _) hL (by rfl) (d2_al2 (by show (2 : Nat) ≠ 3; decide)))
          simp only [Act.put, List.setIfInBounds_toArray, List.set_cons_succ, List.set_cons_zero]
          refine Ghost.walk_yes (fun _ => undef) (fun γ => by rfl) ?_ ?_
          · intro γ L wx h1 h2 hx K hK
            have hA : L (⟨2, 4, 25, #[.int .i64 0, .int .i64 0, .int .i64 0, .bool false, .int .i64 0], #[.int .i64 s1, .int .i64 s2, .int .i64 s3, .bool s4, .int .i64 s5]⟩ : Decl).al = true := h2 2 (by kernel_rfl)
            exact hx.wp_store (⟨2, 4, 25, #[.int .i64 0, .int .i64 0, .int .i64 0, .bool false, .int .i64 0], #[.int .i64 s1, .int .i64 s2, .int .i64 s3, .bool s4, .int .i64 s5]⟩ : Decl) (d2_m1 _ _) h1 hA _ _ rfl rfl rfl (by kernel_rfl) rfl (by kernel_rfl) (hK 0 _ (hx.store (⟨2, 4, 25, #[.int .i64 0, .int .i64 0, .int .i64 0, .bool false, .int .i64 0], #[.int .i64 s1, .int .i64 s2, .int .i64 s3, .bool s4, .int .i64 s5]⟩ : Decl) (d2_m1 _ _) hA (by rfl) (d2_st1 (by show (5 : Nat) ≠ 4; decide)) (d2_al1 (by show (3 : Nat) ≠ 2; decide)) 0))
          simp only [Act.put]
          refine Ghost.walk_yes (fun _ => undef) (fun γ => by rfl) ?_ ?_
          · intro γ L wx h1 h2 hx K hK
            have hA : L (⟨3, 5, 27, #[.int .i64 0, .bool false, .bool false], #[.int .i64 dd, .bool bl, .bool wt]⟩ : Decl).al = true := h2 3 (by kernel_rfl)
            exact hx.wp_store (⟨3, 5, 27, #[.int .i64 0, .bool false, .bool false], #[.int .i64 dd, .bool bl, .bool wt]⟩ : Decl) (d2_m2 _ _) h1 hA _ _ rfl rfl rfl (by kernel_rfl) rfl (by kernel_rfl) (hK 0 _ (hx.store (⟨3, 5, 27, #[.int .i64 0, .bool false, .bool false], #[.int .i64 dd, .bool bl, .bool wt]⟩ : Decl) (d2_m2 _ _) hA (by rfl) (d2_st2 (by show (4 : Nat) ≠ 5; decide)) (d2_al2 (by show (2 : Nat) ≠ 3; decide)) 0))
          simp only [Act.put]
          refine Ghost.walk_nil (fun γ L w3 hall hD => ?_)
          obtain ⟨k3_1, k3_r1, k3_2, k3_r2, k3_ne, k3_b⟩ := hD.done2 hall (by show 2 < 6; decide) (by show 4 < 6; decide) (by show 3 < 6; decide) (by show 5 < 6; decide) (by show (2 : Nat) ≠ 3; decide)
          clear hall hD
          simp only [Nat.zero_add, Nat.reduceAdd] at k3_1 k3_r1 k3_2 k3_r2 k3_ne ⊢
          generalize γ 2 = gx at *
          generalize γ 3 = gy at *
          have HB3 : Hid (Bx w [(gx, .cells #[.int .i64 s1, .int .i64 s2, .int .i64 s3, .bool s4, .int .i64 s5] 25 (0, 0)), (gy, .cells #[.int .i64 dd, .bool bl, .bool wt] 27 (0, 0)), (w.heap.size, .cells #[.int .i64 t0, .int .i64 t1, .int .i64 t2, .int .i64 t3, .int .i64 t4, .int .i64 t5, .int .i64 t6, .int .i64 t7, .int .i64 t8] 23 (0, 0)), (w.heap.size + 1, .cells #[.int .i64 s1, .int .i64 s2, .int .i64 s3, .bool s4, .int .i64 s5] 25 (0, 0)), (w.heap.size + 2, .cells #[.int .i64 dd, .bool bl, .bool wt] 27 (0, 0))] w3) := Lib.hid ⟨(HBR.out.next k3_b).below, fun p hp => by
            simp only [List.mem_cons, List.not_mem_nil, or_false] at hp
            rcases hp with rfl | rfl | rfl | rfl | rfl
            · exact k3_r1
            · exact k3_r2
            · exact (HBR.out.next k3_b).r0
            · exact (HBR.out.next k3_b).r1
            · exact (HBR.out.next k3_b).r2⟩
          have l3_0a : w.heap.size < gx := by omega
          have l3_0b : w.heap.size < gy := by omega
          have l3_1a : w.heap.size + 1 < gx := by omega
          have l3_1b : w.heap.size + 1 < gy := by omega
          have l3_2a : w.heap.size + 2 < gx := by omega
          have l3_2b : w.heap.size + 2 < gy := by omega
          have lw3a : w.heap.size ≤ gx := by have := HBR.out.below.size; omega
          have lw3b : w.heap.size ≤ gy := by have := HBR.out.below.size; omega
          clear k3_1 k3_2 k3_r1 k3_r2 k3_b HBR q0 q1 q2
          go_upto_if 26 with fail
          go_cut [] from 19 to 102 (fun wx => ∃ x1 x2 x3 x5 yd : Int, Bx w [(gx, .cells #[.int .i64 x1, .int .i64 x2, .int .i64 x3, .bool s4, .int .i64 x5] 25 (0, 0)), (gy, .cells #[.int .i64 yd, .bool bl, .bool wt] 27 (0, 0)), (w.heap.size, .cells #[.int .i64 t0, .int .i64 t1, .int .i64 t2, .int .i64 t3, .int .i64 t4, .int .i64 t5, .int .i64 t6, .int .i64 t7, .int .i64 t8] 23 (0, 0)), (w.heap.size + 1, .cells #[.int .i64 s1, .int .i64 s2, .int .i64 s3, .bool s4, .int .i64 s5] 25 (0, 0)), (w.heap.size + 2, .cells #[.int .i64 dd, .bool bl, .bool wt] 27 (0, 0))] wx)
          case first =>
            by_cases h0 : 0 ≤ q
            · have h0B : decide (0 ≤ q) = true := decide_eq_true h0
              have h0g : decide (q ≥ 0) = true := decide_eq_true h0
              have c0_0 : w3.cell? ⟨gx, 0, none⟩ = some (.int .i64 s1) := cell_of_row _ _ _ _ _ (0, 0) HB3.out.r0
              have c0_1 : w3.cell? ⟨gx, 1, none⟩ = some (.int .i64 s2) := cell_of_row _ _ _ _ _ (0, 0) HB3.out.r0
              have c0_2 : w3.cell? ⟨gx, 2, none⟩ = some (.int .i64 s3) := cell_of_row _ _ _ _ _ (0, 0) HB3.out.r0
              have c0_3 : w3.cell? ⟨gx, 3, none⟩ = some (.bool s4) := cell_of_row _ _ _ _ _ (0, 0) HB3.out.r0
              have c0_4 : w3.cell? ⟨gx, 4, none⟩ = some (.int .i64 s5) := cell_of_row _ _ _ _ _ (0, 0) HB3.out.r0
              have c1_0 : w3.cell? ⟨gy, 0, none⟩ = some (.int .i64 dd) := cell_of_row _ _ _ _ _ (0, 0) HB3.out.r1
              have c1_1 : w3.cell? ⟨gy, 1, none⟩ = some (.bool bl) := cell_of_row _ _ _ _ _ (0, 0) HB3.out.r1
              have c1_2 : w3.cell? ⟨gy, 2, none⟩ = some (.bool wt) := cell_of_row _ _ _ _ _ (0, 0) HB3.out.r1
              have c3_0 : w3.cell? ⟨w.heap.size + 1, 0, none⟩ = some (.int .i64 s1) := cell_of_row _ _ _ _ _ (0, 0) HB3.out.r3
              have c3_1 : w3.cell? ⟨w.heap.size + 1, 1, none⟩ = some (.int .i64 s2) := cell_of_row _ _ _ _ _ (0, 0) HB3.out.r3
              have c3_2 : w3.cell? ⟨w.heap.size + 1, 2, none⟩ = some (.int .i64 s3) := cell_of_row _ _ _ _ _ (0, 0) HB3.out.r3
              have c3_3 : w3.cell? ⟨w.heap.size + 1, 3, none⟩ = some (.bool s4) := cell_of_row _ _ _ _ _ (0, 0) HB3.out.r3
              have c3_4 : w3.cell? ⟨w.heap.size + 1, 4, none⟩ = some (.int .i64 s5) := cell_of_row _ _ _ _ _ (0, 0) HB3.out.r3
              go_wp2_with (with_reducible show wpList _ _ _ (Oper.mk _ (.store 3 _ _) _ _ _ _ :: _) _ _; refine Hid.out ?_)
              refine Lib.hid ?_
              refine wpList_putCell rfl 3 _ _ rfl (gx) 0 (.int .i64 q) _ _ 25 rfl rfl HB3.out.r0 (by kernel_rfl) (by simp) rfl rfl rfl ?_
              intro w4 hr4 hg4
              have HB4 : Hid (Bx w [(gx, .cells #[.int .i64 q, .int .i64 s2, .int .i64 s3, .bool s4, .int .i64 s5] 25 (0, 0)), (gy, .cells #[.int .i64 dd, .bool bl, .bool wt] 27 (0, 0)), (w.heap.size, .cells #[.int .i64 t0, .int .i64 t1, .int .i64 t2, .int .i64 t3, .int .i64 t4, .int .i64 t5, .int .i64 t6, .int .i64 t7, .int .i64 t8] 23 (0, 0)), (w.heap.size + 1, .cells #[.int .i64 s1, .int .i64 s2, .int .i64 s3, .bool s4, .int .i64 s5] 25 (0, 0)), (w.heap.size + 2, .cells #[.int .i64 dd, .bool bl, .bool wt] 27 (0, 0))] w4) := Lib.hid (HB3.out.put (by omega) hg4.out hr4.out (by simp only [List.mem_cons, List.not_mem_nil, or_false]; rintro p (rfl | rfl | rfl | rfl | rfl) <;> simp <;> omega))
              clear c0_0 c0_1 c0_2 c0_3 c0_4 c1_0 c1_1 c1_2 c3_0 c3_1 c3_2 c3_3 c3_4 hr4 hg4 HB3
              have c0_0 : w4.cell? ⟨gx, 0, none⟩ = some (.int .i64 q) := cell_of_row _ _ _ _ _ (0, 0) HB4.out.r0
              have c0_1 : w4.cell? ⟨gx, 1, none⟩ = some (.int .i64 s2) := cell_of_row _ _ _ _ _ (0, 0) HB4.out.r0
              have c0_2 : w4.cell? ⟨gx, 2, none⟩ = some (.int .i64 s3) := cell_of_row _ _ _ _ _ (0, 0) HB4.out.r0
              have c0_3 : w4.cell? ⟨gx, 3, none⟩ = some (.bool s4) := cell_of_row _ _ _ _ _ (0, 0) HB4.out.r0
              have c0_4 : w4.cell? ⟨gx, 4, none⟩ = some (.int .i64 s5) := cell_of_row _ _ _ _ _ (0, 0) HB4.out.r0
              have c1_0 : w4.cell? ⟨gy, 0, none⟩ = some (.int .i64 dd) := cell_of_row _ _ _ _ _ (0, 0) HB4.out.r1
              have c1_1 : w4.cell? ⟨gy, 1, none⟩ = some (.bool bl) := cell_of_row _ _ _ _ _ (0, 0) HB4.out.r1
              have c1_2 : w4.cell? ⟨gy, 2, none⟩ = some (.bool wt) := cell_of_row _ _ _ _ _ (0, 0) HB4.out.r1
              have c3_0 : w4.cell? ⟨w.heap.size + 1, 0, none⟩ = some (.int .i64 s1) := cell_of_row _ _ _ _ _ (0, 0) HB4.out.r3
              have c3_1 : w4.cell? ⟨w.heap.size + 1, 1, none⟩ = some (.int .i64 s2) := cell_of_row _ _ _ _ _ (0, 0) HB4.out.r3
              have c3_2 : w4.cell? ⟨w.heap.size + 1, 2, none⟩ = some (.int .i64 s3) := cell_of_row _ _ _ _ _ (0, 0) HB4.out.r3
              have c3_3 : w4.cell? ⟨w.heap.size + 1, 3, none⟩ = some (.bool s4) := cell_of_row _ _ _ _ _ (0, 0) HB4.out.r3
              have c3_4 : w4.cell? ⟨w.heap.size + 1, 4, none⟩ = some (.int .i64 s5) := cell_of_row _ _ _ _ _ (0, 0) HB4.out.r3
              go_wp2_with (with_reducible show wpList _ _ _ (Oper.mk _ (.store 3 _ _) _ _ _ _ :: _) _ _; refine Hid.out ?_)
              refine Lib.hid ?_
              refine wpList_putCell rfl 3 _ _ rfl (gy) 0 (.int .i64 k) _ _ 27 rfl rfl HB4.out.r1 (by kernel_rfl) (by simp) rfl rfl rfl ?_
              intro w5 hr5 hg5
              have HB5 : Hid (Bx w [(gx, .cells #[.int .i64 q, .int .i64 s2, .int .i64 s3, .bool s4, .int .i64 s5] 25 (0, 0)), (gy, .cells #[.int .i64 k, .bool bl, .bool wt] 27 (0, 0)), (w.heap.size, .cells #[.int .i64 t0, .int .i64 t1, .int .i64 t2, .int .i64 t3, .int .i64 t4, .int .i64 t5, .int .i64 t6, .int .i64 t7, .int .i64 t8] 23 (0, 0)), (w.heap.size + 1, .cells #[.int .i64 s1, .int .i64 s2, .int .i64 s3, .bool s4, .int .i64 s5] 25 (0, 0)), (w.heap.size + 2, .cells #[.int .i64 dd, .bool bl, .bool wt] 27 (0, 0))] w5) := Lib.hid (HB4.out.put (by omega) hg5.out hr5.out (by simp only [List.mem_cons, List.not_mem_nil, or_false]; rintro p (rfl | rfl | rfl | rfl | rfl) <;> simp <;> omega))
              clear c0_0 c0_1 c0_2 c0_3 c0_4 c1_0 c1_1 c1_2 c3_0 c3_1 c3_2 c3_3 c3_4 hr5 hg5 HB4
              obtain ⟨hb2, hb3, hb5⟩ := HBI.out
              go_wp2_with fail
              have q0 : gx < w5.heap.size := (Array.getElem?_eq_some_iff.1 HB5.out.r0).1
              have q1 : gy < w5.heap.size := (Array.getElem?_eq_some_iff.1 HB5.out.r1).1
              have q2 : w.heap.size < w5.heap.size := (Array.getElem?_eq_some_iff.1 HB5.out.r2).1
              have q3 : w.heap.size + 1 < w5.heap.size := (Array.getElem?_eq_some_iff.1 HB5.out.r3).1
              have q4 : w.heap.size + 2 < w5.heap.size := (Array.getElem?_eq_some_iff.1 HB5.out.r4).1
              refine GhostV.ghost (fun γ L wx => GS (w5) (gx) 25 #[.int .i64 q, .int .i64 s2, .int .i64 s3, .bool s4, .int .i64 s5] [(10, 1, (.int .i64 b2)), (12, 2, (.int .i64 b3)), (14, 4, (.int .i64 b5))] γ L wx) (by kernel_rfl) (by kernel_rfl) (fun γ => GS.start γ (HB5.out.r0)) ?_
              apply GhostV.walk_const (fun γ => by rfl)
              · intro γ L wx h1 h2 hx K hK
                have z3_0 : wx.cell? ⟨w.heap.size + 1, 0, none⟩ = some (.int .i64 s1) := cell_of_row _ _ _ _ _ (0, 0) ((hx.put.other (w.heap.size + 1) q3 (by omega)).trans HB5.out.r3)
                have z3_1 : wx.cell? ⟨w.heap.size + 1, 1, none⟩ = some (.int .i64 s2) := cell_of_row _ _ _ _ _ (0, 0) ((hx.put.other (w.heap.size + 1) q3 (by omega)).trans HB5.out.r3)
                have z3_2 : wx.cell? ⟨w.heap.size + 1, 2, none⟩ = some (.int .i64 s3) := cell_of_row _ _ _ _ _ (0, 0) ((hx.put.other (w.heap.size + 1) q3 (by omega)).trans HB5.out.r3)
                have z3_3 : wx.cell? ⟨w.heap.size + 1, 3, none⟩ = some (.bool s4) := cell_of_row _ _ _ _ _ (0, 0) ((hx.put.other (w.heap.size + 1) q3 (by omega)).trans HB5.out.r3)
                have z3_4 : wx.cell? ⟨w.heap.size + 1, 4, none⟩ = some (.int .i64 s5) := cell_of_row _ _ _ _ _ (0, 0) ((hx.put.other (w.heap.size + 1) q3 (by omega)).trans HB5.out.r3)
                have HH := Lib.hid hx
                have HK2 := Lib.hid hK
                clear hK h1 h2 hx
                go_simp
                first
                  | exact HK2.out _ (HH.out.next _ (by rfl) (Below.refl _ _))
              try simp only [Act.put, List.setIfInBounds_toArray, List.set_cons_succ, List.set_cons_zero]
              apply GhostV.walk_const (fun γ => by rfl)
              · intro γ L wx h1 h2 hx K hK
                have z3_0 : wx.cell? ⟨w.heap.size + 1, 0, none⟩ = some (.int .i64 s1) := cell_of_row _ _ _ _ _ (0, 0) ((hx.put.other (w.heap.size + 1) q3 (by omega)).trans HB5.out.r3)
                have z3_1 : wx.cell? ⟨w.heap.size + 1, 1, none⟩ = some (.int .i64 s2) := cell_of_row _ _ _ _ _ (0, 0) ((hx.put.other (w.heap.size + 1) q3 (by omega)).trans HB5.out.r3)
                have z3_2 : wx.cell? ⟨w.heap.size + 1, 2, none⟩ = some (.int .i64 s3) := cell_of_row _ _ _ _ _ (0, 0) ((hx.put.other (w.heap.size + 1) q3 (by omega)).trans HB5.out.r3)
                have z3_3 : wx.cell? ⟨w.heap.size + 1, 3, none⟩ = some (.bool s4) := cell_of_row _ _ _ _ _ (0, 0) ((hx.put.other (w.heap.size + 1) q3 (by omega)).trans HB5.out.r3)
                have z3_4 : wx.cell? ⟨w.heap.size + 1, 4, none⟩ = some (.int .i64 s5) := cell_of_row _ _ _ _ _ (0, 0) ((hx.put.other (w.heap.size + 1) q3 (by omega)).trans HB5.out.r3)
                have HH := Lib.hid hx
                have HK2 := Lib.hid hK
                clear hK h1 h2 hx
                go_simp
                first
                  | exact HK2.out _ (HH.out.next _ (by rfl) (Below.refl _ _))
              try simp only [Act.put, List.setIfInBounds_toArray, List.set_cons_succ, List.set_cons_zero]
              apply GhostV.walk_const (fun γ => by rfl)
              · intro γ L wx h1 h2 hx K hK
                have z3_0 : wx.cell? ⟨w.heap.size + 1, 0, none⟩ = some (.int .i64 s1) := cell_of_row _ _ _ _ _ (0, 0) ((hx.put.other (w.heap.size + 1) q3 (by omega)).trans HB5.out.r3)
                have z3_1 : wx.cell? ⟨w.heap.size + 1, 1, none⟩ = some (.int .i64 s2) := cell_of_row _ _ _ _ _ (0, 0) ((hx.put.other (w.heap.size + 1) q3 (by omega)).trans HB5.out.r3)
                have z3_2 : wx.cell? ⟨w.heap.size + 1, 2, none⟩ = some (.int .i64 s3) := cell_of_row _ _ _ _ _ (0, 0) ((hx.put.other (w.heap.size + 1) q3 (by omega)).trans HB5.out.r3)
                have z3_3 : wx.cell? ⟨w.heap.size + 1, 3, none⟩ = some (.bool s4) := cell_of_row _ _ _ _ _ (0, 0) ((hx.put.other (w.heap.size + 1) q3 (by omega)).trans HB5.out.r3)
                have z3_4 : wx.cell? ⟨w.heap.size + 1, 4, none⟩ = some (.int .i64 s5) := cell_of_row _ _ _ _ _ (0, 0) ((hx.put.other (w.heap.size + 1) q3 (by omega)).trans HB5.out.r3)
                have HH := Lib.hid hx
                have HK2 := Lib.hid hK
                clear hK h1 h2 hx
                go_simp
                first
                  | exact HK2.out _ (HH.out.next _ (by rfl) (Below.refl _ _))
              try simp only [Act.put, List.setIfInBounds_toArray, List.set_cons_succ, List.set_cons_zero]
              apply GhostV.walk_const (fun γ => by rfl)
              · intro γ L wx h1 h2 hx K hK
                have z3_0 : wx.cell? ⟨w.heap.size + 1, 0, none⟩ = some (.int .i64 s1) := cell_of_row _ _ _ _ _ (0, 0) ((hx.put.other (w.heap.size + 1) q3 (by omega)).trans HB5.out.r3)
                have z3_1 : wx.cell? ⟨w.heap.size + 1, 1, none⟩ = some (.int .i64 s2) := cell_of_row _ _ _ _ _ (0, 0) ((hx.put.other (w.heap.size + 1) q3 (by omega)).trans HB5.out.r3)
                have z3_2 : wx.cell? ⟨w.heap.size + 1, 2, none⟩ = some (.int .i64 s3) := cell_of_row _ _ _ _ _ (0, 0) ((hx.put.other (w.heap.size + 1) q3 (by omega)).trans HB5.out.r3)
                have z3_3 : wx.cell? ⟨w.heap.size + 1, 3, none⟩ = some (.bool s4) := cell_of_row _ _ _ _ _ (0, 0) ((hx.put.other (w.heap.size + 1) q3 (by omega)).trans HB5.out.r3)
                have z3_4 : wx.cell? ⟨w.heap.size + 1, 4, none⟩ = some (.int .i64 s5) := cell_of_row _ _ _ _ _ (0, 0) ((hx.put.other (w.heap.size + 1) q3 (by omega)).trans HB5.out.r3)
                have HH := Lib.hid hx
                have HK2 := Lib.hid hK
                clear hK h1 h2 hx
                go_simp
                first
                  | exact HK2.out _ (HH.out.next _ (by rfl) (Below.refl _ _))
              try simp only [Act.put, List.setIfInBounds_toArray, List.set_cons_succ, List.set_cons_zero]
              apply GhostV.walk_const (fun γ => by rfl)
              · intro γ L wx h1 h2 hx K hK
                have z3_0 : wx.cell? ⟨w.heap.size + 1, 0, none⟩ = some (.int .i64 s1) := cell_of_row _ _ _ _ _ (0, 0) ((hx.put.other (w.heap.size + 1) q3 (by omega)).trans HB5.out.r3)
                have z3_1 : wx.cell? ⟨w.heap.size + 1, 1, none⟩ = some (.int .i64 s2) := cell_of_row _ _ _ _ _ (0, 0) ((hx.put.other (w.heap.size + 1) q3 (by omega)).trans HB5.out.r3)
                have z3_2 : wx.cell? ⟨w.heap.size + 1, 2, none⟩ = some (.int .i64 s3) := cell_of_row _ _ _ _ _ (0, 0) ((hx.put.other (w.heap.size + 1) q3 (by omega)).trans HB5.out.r3)
                have z3_3 : wx.cell? ⟨w.heap.size + 1, 3, none⟩ = some (.bool s4) := cell_of_row _ _ _ _ _ (0, 0) ((hx.put.other (w.heap.size + 1) q3 (by omega)).trans HB5.out.r3)
                have z3_4 : wx.cell? ⟨w.heap.size + 1, 4, none⟩ = some (.int .i64 s5) := cell_of_row _ _ _ _ _ (0, 0) ((hx.put.other (w.heap.size + 1) q3 (by omega)).trans HB5.out.r3)
                have HH := Lib.hid hx
                have HK2 := Lib.hid hK
                clear hK h1 h2 hx
                go_simp
                first
                  | exact HK2.out _ (HH.out.next _ (by rfl) (Below.refl _ _))
              try simp only [Act.put, List.setIfInBounds_toArray, List.set_cons_succ, List.set_cons_zero]
              apply GhostV.walk_const (fun γ => by rfl)
              · intro γ L wx h1 h2 hx K hK
                have z3_0 : wx.cell? ⟨w.heap.size + 1, 0, none⟩ = some (.int .i64 s1) := cell_of_row _ _ _ _ _ (0, 0) ((hx.put.other (w.heap.size + 1) q3 (by omega)).trans HB5.out.r3)
                have z3_1 : wx.cell? ⟨w.heap.size + 1, 1, none⟩ = some (.int .i64 s2) := cell_of_row _ _ _ _ _ (0, 0) ((hx.put.other (w.heap.size + 1) q3 (by omega)).trans HB5.out.r3)
                have z3_2 : wx.cell? ⟨w.heap.size + 1, 2, none⟩ = some (.int .i64 s3) := cell_of_row _ _ _ _ _ (0, 0) ((hx.put.other (w.heap.size + 1) q3 (by omega)).trans HB5.out.r3)
                have z3_3 : wx.cell? ⟨w.heap.size + 1, 3, none⟩ = some (.bool s4) := cell_of_row _ _ _ _ _ (0, 0) ((hx.put.other (w.heap.size + 1) q3 (by omega)).trans HB5.out.r3)
                have z3_4 : wx.cell? ⟨w.heap.size + 1, 4, none⟩ = some (.int .i64 s5) := cell_of_row _ _ _ _ _ (0, 0) ((hx.put.other (w.heap.size + 1) q3 (by omega)).trans HB5.out.r3)
                have HH := Lib.hid hx
                have HK2 := Lib.hid hK
                clear hK h1 h2 hx
                go_simp
                first
                  | exact HK2.out _ (HH.out.next _ (by rfl) (Below.refl _ _))
              try simp only [Act.put, List.setIfInBounds_toArray, List.set_cons_succ, List.set_cons_zero]
              apply GhostV.walk_const (fun γ => by rfl)
              · intro γ L wx h1 h2 hx K hK
                have z3_0 : wx.cell? ⟨w.heap.size + 1, 0, none⟩ = some (.int .i64 s1) := cell_of_row _ _ _ _ _ (0, 0) ((hx.put.other (w.heap.size + 1) q3 (by omega)).trans HB5.out.r3)
                have z3_1 : wx.cell? ⟨w.heap.size + 1, 1, none⟩ = some (.int .i64 s2) := cell_of_row _ _ _ _ _ (0, 0) ((hx.put.other (w.heap.size + 1) q3 (by omega)).trans HB5.out.r3)
                have z3_2 : wx.cell? ⟨w.heap.size + 1, 2, none⟩ = some (.int .i64 s3) := cell_of_row _ _ _ _ _ (0, 0) ((hx.put.other (w.heap.size + 1) q3 (by omega)).trans HB5.out.r3)
                have z3_3 : wx.cell? ⟨w.heap.size + 1, 3, none⟩ = some (.bool s4) := cell_of_row _ _ _ _ _ (0, 0) ((hx.put.other (w.heap.size + 1) q3 (by omega)).trans HB5.out.r3)
                have z3_4 : wx.cell? ⟨w.heap.size + 1, 4, none⟩ = some (.int .i64 s5) := cell_of_row _ _ _ _ _ (0, 0) ((hx.put.other (w.heap.size + 1) q3 (by omega)).trans HB5.out.r3)
                have HH := Lib.hid hx
                have HK2 := Lib.hid hK
                clear hK h1 h2 hx
                go_simp
                first
                  | exact HK2.out _ (HH.out.next _ (by rfl) (Below.refl _ _))
              try simp only [Act.put, List.setIfInBounds_toArray, List.set_cons_succ, List.set_cons_zero]
              apply GhostV.walk_const (fun γ => by rfl)
              · intro γ L wx h1 h2 hx K hK
                have z3_0 : wx.cell? ⟨w.heap.size + 1, 0, none⟩ = some (.int .i64 s1) := cell_of_row _ _ _ _ _ (0, 0) ((hx.put.other (w.heap.size + 1) q3 (by omega)).trans HB5.out.r3)
                have z3_1 : wx.cell? ⟨w.heap.size + 1, 1, none⟩ = some (.int .i64 s2) := cell_of_row _ _ _ _ _ (0, 0) ((hx.put.other (w.heap.size + 1) q3 (by omega)).trans HB5.out.r3)
                have z3_2 : wx.cell? ⟨w.heap.size + 1, 2, none⟩ = some (.int .i64 s3) := cell_of_row _ _ _ _ _ (0, 0) ((hx.put.other (w.heap.size + 1) q3 (by omega)).trans HB5.out.r3)
                have z3_3 : wx.cell? ⟨w.heap.size + 1, 3, none⟩ = some (.bool s4) := cell_of_row _ _ _ _ _ (0, 0) ((hx.put.other (w.heap.size + 1) q3 (by omega)).trans HB5.out.r3)
                have z3_4 : wx.cell? ⟨w.heap.size + 1, 4, none⟩ = some (.int .i64 s5) := cell_of_row _ _ _ _ _ (0, 0) ((hx.put.other (w.heap.size + 1) q3 (by omega)).trans HB5.out.r3)
                have HH := Lib.hid hx
                have HK2 := Lib.hid hK
                clear hK h1 h2 hx
                go_simp
                first
                  | exact HK2.out _ (HH.out.next _ (by rfl) (Below.refl _ _))
              try simp only [Act.put, List.setIfInBounds_toArray, List.set_cons_succ, List.set_cons_zero]
              apply GhostV.walk_const (fun γ => by rfl)
              · intro γ L wx h1 h2 hx K hK
                have z3_0 : wx.cell? ⟨w.heap.size + 1, 0, none⟩ = some (.int .i64 s1) := cell_of_row _ _ _ _ _ (0, 0) ((hx.put.other (w.heap.size + 1) q3 (by omega)).trans HB5.out.r3)
                have z3_1 : wx.cell? ⟨w.heap.size + 1, 1, none⟩ = some (.int .i64 s2) := cell_of_row _ _ _ _ _ (0, 0) ((hx.put.other (w.heap.size + 1) q3 (by omega)).trans HB5.out.r3)
                have z3_2 : wx.cell? ⟨w.heap.size + 1, 2, none⟩ = some (.int .i64 s3) := cell_of_row _ _ _ _ _ (0, 0) ((hx.put.other (w.heap.size + 1) q3 (by omega)).trans HB5.out.r3)
                have z3_3 : wx.cell? ⟨w.heap.size + 1, 3, none⟩ = some (.bool s4) := cell_of_row _ _ _ _ _ (0, 0) ((hx.put.other (w.heap.size + 1) q3 (by omega)).trans HB5.out.r3)
                have z3_4 : wx.cell? ⟨w.heap.size + 1, 4, none⟩ = some (.int .i64 s5) := cell_of_row _ _ _ _ _ (0, 0) ((hx.put.other (w.heap.size + 1) q3 (by omega)).trans HB5.out.r3)
                have HH := Lib.hid hx
                have HK2 := Lib.hid hK
                clear hK h1 h2 hx
                go_simp
                first
                  | exact HK2.out _ (HH.out.next _ (by rfl) (Below.refl _ _))
              try simp only [Act.put, List.setIfInBounds_toArray, List.set_cons_succ, List.set_cons_zero]
              apply GhostV.walk_const (fun γ => by rfl)
              · intro γ L wx h1 h2 hx K hK
                have z3_0 : wx.cell? ⟨w.heap.size + 1, 0, none⟩ = some (.int .i64 s1) := cell_of_row _ _ _ _ _ (0, 0) ((hx.put.other (w.heap.size + 1) q3 (by omega)).trans HB5.out.r3)
                have z3_1 : wx.cell? ⟨w.heap.size + 1, 1, none⟩ = some (.int .i64 s2) := cell_of_row _ _ _ _ _ (0, 0) ((hx.put.other (w.heap.size + 1) q3 (by omega)).trans HB5.out.r3)
                have z3_2 : wx.cell? ⟨w.heap.size + 1, 2, none⟩ = some (.int .i64 s3) := cell_of_row _ _ _ _ _ (0, 0) ((hx.put.other (w.heap.size + 1) q3 (by omega)).trans HB5.out.r3)
                have z3_3 : wx.cell? ⟨w.heap.size + 1, 3, none⟩ = some (.bool s4) := cell_of_row _ _ _ _ _ (0, 0) ((hx.put.other (w.heap.size + 1) q3 (by omega)).trans HB5.out.r3)
                have z3_4 : wx.cell? ⟨w.heap.size + 1, 4, none⟩ = some (.int .i64 s5) := cell_of_row _ _ _ _ _ (0, 0) ((hx.put.other (w.heap.size + 1) q3 (by omega)).trans HB5.out.r3)
                have HH := Lib.hid hx
                have HK2 := Lib.hid hK
                clear hK h1 h2 hx
                go_simp
                first
                  | exact HK2.out _ (HH.out.next _ (by rfl) (Below.refl _ _))
              try simp only [Act.put, List.setIfInBounds_toArray, List.set_cons_succ, List.set_cons_zero]
              refine GhostV.walk_const (v := undef) (fun γ => by rfl) ?_ ?_
              · intro γ L wx h1 h2 hx K hK
                have he : rowL [(10, 1, (.int .i64 b2)), (12, 2, (.int .i64 b3)), (14, 4, (.int .i64 b5))] (GhostV.mark L 10) #[.int .i64 q, .int .i64 s2, .int .i64 s3, .bool s4, .int .i64 s5] = (rowL [(10, 1, (.int .i64 b2)), (12, 2, (.int .i64 b3)), (14, 4, (.int .i64 b5))] L #[.int .i64 q, .int .i64 s2, .int .i64 s3, .bool s4, .int .i64 s5]).setIfInBounds 1 ((.int .i64 b2)) := by
                  simp only [rowL, List.foldl_cons, List.foldl_nil, GhostV.mark]
                  generalize L 12 = q0
                  generalize L 14 = q1
                  have h1L : L 10 = false := h1
                  rw [h1L]
                  cases q0 <;> cases q1 <;> rfl
                have hz1 : wx.cell? ⟨gx, 1, none⟩ = some ((rowL [(10, 1, (.int .i64 b2)), (12, 2, (.int .i64 b3)), (14, 4, (.int .i64 b5))] L #[.int .i64 q, .int .i64 s2, .int .i64 s3, .bool s4, .int .i64 s5]).getD 1 undef) := by
                  rw [hx.put.cell]
                  have hs := rowL_size [(10, 1, (.int .i64 b2)), (12, 2, (.int .i64 b3)), (14, 4, (.int .i64 b5))] L #[.int .i64 q, .int .i64 s2, .int .i64 s3, .bool s4, .int .i64 s5]
                  simp only [Array.getD, hs]
                  rw [Array.getElem?_eq_getElem (by rw [hs]; simp)]
                  rfl
                have hz2 := hx.put.free 1
                have HH := Lib.hid (fun v => hx.stored v he)
                generalize (rowL [(10, 1, (.int .i64 b2)), (12, 2, (.int .i64 b3)), (14, 4, (.int .i64 b5))] L #[.int .i64 q, .int .i64 s2, .int .i64 s3, .bool s4, .int .i64 s5]).getD 1 undef = old at hz1
                have HK2 := Lib.hid hK
                clear hK h1 h2 hx he
                go_simp
                exact HK2.out _ (HH.out _)
              try simp only [Act.put]
              apply GhostV.walk_const (fun γ => by rfl)
              · intro γ L wx h1 h2 hx K hK
                have z3_0 : wx.cell? ⟨w.heap.size + 1, 0, none⟩ = some (.int .i64 s1) := cell_of_row _ _ _ _ _ (0, 0) ((hx.put.other (w.heap.size + 1) q3 (by omega)).trans HB5.out.r3)
                have z3_1 : wx.cell? ⟨w.heap.size + 1, 1, none⟩ = some (.int .i64 s2) := cell_of_row _ _ _ _ _ (0, 0) ((hx.put.other (w.heap.size + 1) q3 (by omega)).trans HB5.out.r3)
                have z3_2 : wx.cell? ⟨w.heap.size + 1, 2, none⟩ = some (.int .i64 s3) := cell_of_row _ _ _ _ _ (0, 0) ((hx.put.other (w.heap.size + 1) q3 (by omega)).trans HB5.out.r3)
                have z3_3 : wx.cell? ⟨w.heap.size + 1, 3, none⟩ = some (.bool s4) := cell_of_row _ _ _ _ _ (0, 0) ((hx.put.other (w.heap.size + 1) q3 (by omega)).trans HB5.out.r3)
                have z3_4 : wx.cell? ⟨w.heap.size + 1, 4, none⟩ = some (.int .i64 s5) := cell_of_row _ _ _ _ _ (0, 0) ((hx.put.other (w.heap.size + 1) q3 (by omega)).trans HB5.out.r3)
                have HH := Lib.hid hx
                have HK2 := Lib.hid hK
                clear hK h1 h2 hx
                go_simp
                first
                  | exact HK2.out _ (HH.out.next _ (by rfl) (Below.refl _ _))
              try simp only [Act.put, List.setIfInBounds_toArray, List.set_cons_succ, List.set_cons_zero]
              refine GhostV.walk_const (v := undef) (fun γ => by rfl) ?_ ?_
              · intro γ L wx h1 h2 hx K hK
                have he : rowL [(10, 1, (.int .i64 b2)), (12, 2, (.int .i64 b3)), (14, 4, (.int .i64 b5))] (GhostV.mark L 12) #[.int .i64 q, .int .i64 s2, .int .i64 s3, .bool s4, .int .i64 s5] = (rowL [(10, 1, (.int .i64 b2)), (12, 2, (.int .i64 b3)), (14, 4, (.int .i64 b5))] L #[.int .i64 q, .int .i64 s2, .int .i64 s3, .bool s4, .int .i64 s5]).setIfInBounds 2 ((.int .i64 b3)) := by
                  simp only [rowL, List.foldl_cons, List.foldl_nil, GhostV.mark]
                  generalize L 10 = q0
                  generalize L 14 = q1
                  have h1L : L 12 = false := h1
                  rw [h1L]
                  cases q0 <;> cases q1 <;> rfl
                have hz1 : wx.cell? ⟨gx, 2, none⟩ = some ((rowL [(10, 1, (.int .i64 b2)), (12, 2, (.int .i64 b3)), (14, 4, (.int .i64 b5))] L #[.int .i64 q, .int .i64 s2, .int .i64 s3, .bool s4, .int .i64 s5]).getD 2 undef) := by
                  rw [hx.put.cell]
                  have hs := rowL_size [(10, 1, (.int .i64 b2)), (12, 2, (.int .i64 b3)), (14, 4, (.int .i64 b5))] L #[.int .i64 q, .int .i64 s2, .int .i64 s3, .bool s4, .int .i64 s5]
                  simp only [Array.getD, hs]
                  rw [Array.getElem?_eq_getElem (by rw [hs]; simp)]
                  rfl
                have hz2 := hx.put.free 2
                have HH := Lib.hid (fun v => hx.stored v he)
                generalize (rowL [(10, 1, (.int .i64 b2)), (12, 2, (.int .i64 b3)), (14, 4, (.int .i64 b5))] L #[.int .i64 q, .int .i64 s2, .int .i64 s3, .bool s4, .int .i64 s5]).getD 2 undef = old at hz1
                have HK2 := Lib.hid hK
                clear hK h1 h2 hx he
                go_simp
                exact HK2.out _ (HH.out _)
              try simp only [Act.put]
              apply GhostV.walk_const (fun γ => by rfl)
              · intro γ L wx h1 h2 hx K hK
                have z3_0 : wx.cell? ⟨w.heap.size + 1, 0, none⟩ = some (.int .i64 s1) := cell_of_row _ _ _ _ _ (0, 0) ((hx.put.other (w.heap.size + 1) q3 (by omega)).trans HB5.out.r3)
                have z3_1 : wx.cell? ⟨w.heap.size + 1, 1, none⟩ = some (.int .i64 s2) := cell_of_row _ _ _ _ _ (0, 0) ((hx.put.other (w.heap.size + 1) q3 (by omega)).trans HB5.out.r3)
                have z3_2 : wx.cell? ⟨w.heap.size + 1, 2, none⟩ = some (.int .i64 s3) := cell_of_row _ _ _ _ _ (0, 0) ((hx.put.other (w.heap.size + 1) q3 (by omega)).trans HB5.out.r3)
                have z3_3 : wx.cell? ⟨w.heap.size + 1, 3, none⟩ = some (.bool s4) := cell_of_row _ _ _ _ _ (0, 0) ((hx.put.other (w.heap.size + 1) q3 (by omega)).trans HB5.out.r3)
                have z3_4 : wx.cell? ⟨w.heap.size + 1, 4, none⟩ = some (.int .i64 s5) := cell_of_row _ _ _ _ _ (0, 0) ((hx.put.other (w.heap.size + 1) q3 (by omega)).trans HB5.out.r3)
                have HH := Lib.hid hx
                have HK2 := Lib.hid hK
                clear hK h1 h2 hx
                go_simp
                first
                  | exact HK2.out _ (HH.out.next _ (by rfl) (Below.refl _ _))
              try simp only [Act.put, List.setIfInBounds_toArray, List.set_cons_succ, List.set_cons_zero]
              refine GhostV.walk_const (v := undef) (fun γ => by rfl) ?_ ?_
              · intro γ L wx h1 h2 hx K hK
                have he : rowL [(10, 1, (.int .i64 b2)), (12, 2, (.int .i64 b3)), (14, 4, (.int .i64 b5))] (GhostV.mark L 14) #[.int .i64 q, .int .i64 s2, .int .i64 s3, .bool s4, .int .i64 s5] = (rowL [(10, 1, (.int .i64 b2)), (12, 2, (.int .i64 b3)), (14, 4, (.int .i64 b5))] L #[.int .i64 q, .int .i64 s2, .int .i64 s3, .bool s4, .int .i64 s5]).setIfInBounds 4 ((.int .i64 b5)) := by
                  simp only [rowL, List.foldl_cons, List.foldl_nil, GhostV.mark]
                  generalize L 10 = q0
                  generalize L 12 = q1
                  have h1L : L 14 = false := h1
                  rw [h1L]
                  cases q0 <;> cases q1 <;> rfl
                have hz1 : wx.cell? ⟨gx, 4, none⟩ = some ((rowL [(10, 1, (.int .i64 b2)), (12, 2, (.int .i64 b3)), (14, 4, (.int .i64 b5))] L #[.int .i64 q, .int .i64 s2, .int .i64 s3, .bool s4, .int .i64 s5]).getD 4 undef) := by
                  rw [hx.put.cell]
                  have hs := rowL_size [(10, 1, (.int .i64 b2)), (12, 2, (.int .i64 b3)), (14, 4, (.int .i64 b5))] L #[.int .i64 q, .int .i64 s2, .int .i64 s3, .bool s4, .int .i64 s5]
                  simp only [Array.getD, hs]
                  rw [Array.getElem?_eq_getElem (by rw [hs]; simp)]
                  rfl
                have hz2 := hx.put.free 4
                have HH := Lib.hid (fun v => hx.stored v he)
                generalize (rowL [(10, 1, (.int .i64 b2)), (12, 2, (.int .i64 b3)), (14, 4, (.int .i64 b5))] L #[.int .i64 q, .int .i64 s2, .int .i64 s3, .bool s4, .int .i64 s5]).getD 4 undef = old at hz1
                have HK2 := Lib.hid hK
                clear hK h1 h2 hx he
                go_simp
                exact HK2.out _ (HH.out _)
              try simp only [Act.put]
              refine GhostV.walk_nil (fun γ L w6 hall hx => ?_)
              have hp6 := hx.done (R := #[.int .i64 q, (.int .i64 b2), (.int .i64 b3), .bool s4, (.int .i64 b5)]) (by simp only [rowL, List.foldl_cons, List.foldl_nil, hall 10 (by decide), hall 12 (by decide), hall 14 (by decide)]; rfl)
              clear hall hx
              have HB6 : Hid (Bx w [(gx, .cells #[.int .i64 q, (.int .i64 b2), (.int .i64 b3), .bool s4, (.int .i64 b5)] 25 (0, 0)), (gy, .cells #[.int .i64 k, .bool bl, .bool wt] 27 (0, 0)), (w.heap.size, .cells #[.int .i64 t0, .int .i64 t1, .int .i64 t2, .int .i64 t3, .int .i64 t4, .int .i64 t5, .int .i64 t6, .int .i64 t7, .int .i64 t8] 23 (0, 0)), (w.heap.size + 1, .cells #[.int .i64 s1, .int .i64 s2, .int .i64 s3, .bool s4, .int .i64 s5] 25 (0, 0)), (w.heap.size + 2, .cells #[.int .i64 dd, .bool bl, .bool wt] 27 (0, 0))] w6) := Lib.hid (HB5.out.ofPut (by omega) hp6 (by simp only [List.mem_cons, List.not_mem_nil, or_false]; rintro p (rfl | rfl | rfl | rfl | rfl) <;> simp <;> omega))
              clear hp6 HB5 q0 q1 q2 q3 q4
              go_wp2_with fail
              go_meet
              exact ⟨q, b2, b3, b5, (k : Int), HB6.out⟩
            · have h0B : decide (0 ≤ q) = false := decide_eq_false h0
              have h0g : decide (q ≥ 0) = false := decide_eq_false h0
              go_wp2_with fail
              go_meet
              exact ⟨s1, s2, s3, s5, dd, HB3.out⟩
          case rest =>
            obtain ⟨x1, x2, x3, x5, yd, hbx⟩ := hcut
            have HBC := Lib.hid hbx
            clear hbx HB3
            obtain ⟨X, hX⟩ : ∃ X, Dr.stepF t6 t7 ⟨x1, x2, x3, s4, x5⟩ yd bl wt = X := ⟨_, rfl⟩
            have hXB := Dr.stepF_isB t6 t7 ⟨x1, x2, x3, s4, x5⟩ yd bl wt
            rw [hX] at hXB
            obtain ⟨⟨a, b, c, d, e⟩, m⟩ := X
            simp only at hXB
            have FS := Lib.hid (fun wx => step_to t0 t1 t2 t3 t4 t5 t6 t7 t8 x1 x2 x3 s4 x5 yd bl wt a b c d e m wx hX)
            have FR := Lib.hid (fun wx => rstep_to t0 t1 t2 t3 t4 t5 t6 t7 t8 x1 x2 x3 s4 x5 yd bl wt a b c d e m wx hX)
            have FI1 := Lib.hid (fun wx => isState_any x1 x2 x3 s4 x5 wx)
            have FI2 := Lib.hid (fun wx => refIsState_any x1 x2 x3 s4 x5 wx)
            generalize Dr.isB ⟨x1, x2, x3, s4, x5⟩ = qB at FI1 FI2
            have FI3 := Lib.hid (fun wx => refIsState_any a b c d e wx)
            rw [hXB] at FI3
            have FK1 := Lib.hid (fun wx => skip_any x1 x2 x3 s4 x5 wx)
            have FK2 := Lib.hid (fun wx => refSkip_any x1 x2 x3 s4 x5 wx)
            generalize Dr.skipF ⟨x1, x2, x3, s4, x5⟩ = Y at FK1 FK2
            obtain ⟨y1, y2, y3, y4, y5⟩ := Y
            simp only [Dr.agg] at FK1 FK2
            have FL1 := Lib.hid (fun wx => late_any t0 t1 t2 t3 t4 t5 t6 t7 t8 x1 x2 x3 s4 x5 wx)
            have FL2 := Lib.hid (fun wx => refLate_any t0 t1 t2 t3 t4 t5 t6 t7 t8 x1 x2 x3 s4 x5 wx)
            generalize Dr.late t5 ⟨x1, x2, x3, s4, x5⟩ = qL at FL1 FL2
            have eqn := neqDr a b c d e a b c d e
            rw [Dr.same_self] at eqn
            have eqs := neqDr y1 y2 y3 y4 y5 y1 y2 y3 y4 y5
            rw [Dr.same_self] at eqs
            have eB : (qB != qB) = false := by cases qB <;> rfl
            have eL : (qL != qL) = false := by cases qL <;> rfl
            have em : (m != m) = false := by simp
            clear hX hXB HBI
            have c0_0 : wc.cell? ⟨gx, 0, none⟩ = some (.int .i64 x1) := cell_of_row _ _ _ _ _ (0, 0) HBC.out.r0
            have c0_1 : wc.cell? ⟨gx, 1, none⟩ = some (.int .i64 x2) := cell_of_row _ _ _ _ _ (0, 0) HBC.out.r0
            have c0_2 : wc.cell? ⟨gx, 2, none⟩ = some (.int .i64 x3) := cell_of_row _ _ _ _ _ (0, 0) HBC.out.r0
            have c0_3 : wc.cell? ⟨gx, 3, none⟩ = some (.bool s4) := cell_of_row _ _ _ _ _ (0, 0) HBC.out.r0
            have c0_4 : wc.cell? ⟨gx, 4, none⟩ = some (.int .i64 x5) := cell_of_row _ _ _ _ _ (0, 0) HBC.out.r0
            have c1_0 : wc.cell? ⟨gy, 0, none⟩ = some (.int .i64 yd) := cell_of_row _ _ _ _ _ (0, 0) HBC.out.r1
            have c1_1 : wc.cell? ⟨gy, 1, none⟩ = some (.bool bl) := cell_of_row _ _ _ _ _ (0, 0) HBC.out.r1
            have c1_2 : wc.cell? ⟨gy, 2, none⟩ = some (.bool wt) := cell_of_row _ _ _ _ _ (0, 0) HBC.out.r1
            have c2_0 : wc.cell? ⟨w.heap.size, 0, none⟩ = some (.int .i64 t0) := cell_of_row _ _ _ _ _ (0, 0) HBC.out.r2
            have c2_1 : wc.cell? ⟨w.heap.size, 1, none⟩ = some (.int .i64 t1) := cell_of_row _ _ _ _ _ (0, 0) HBC.out.r2
            have c2_2 : wc.cell? ⟨w.heap.size, 2, none⟩ = some (.int .i64 t2) := cell_of_row _ _ _ _ _ (0, 0) HBC.out.r2
            have c2_3 : wc.cell? ⟨w.heap.size, 3, none⟩ = some (.int .i64 t3) := cell_of_row _ _ _ _ _ (0, 0) HBC.out.r2
            have c2_4 : wc.cell? ⟨w.heap.size, 4, none⟩ = some (.int .i64 t4) := cell_of_row _ _ _ _ _ (0, 0) HBC.out.r2
            have c2_5 : wc.cell? ⟨w.heap.size, 5, none⟩ = some (.int .i64 t5) := cell_of_row _ _ _ _ _ (0, 0) HBC.out.r2
            have c2_6 : wc.cell? ⟨w.heap.size, 6, none⟩ = some (.int .i64 t6) := cell_of_row _ _ _ _ _ (0, 0) HBC.out.r2
            have c2_7 : wc.cell? ⟨w.heap.size, 7, none⟩ = some (.int .i64 t7) := cell_of_row _ _ _ _ _ (0, 0) HBC.out.r2
            have c2_8 : wc.cell? ⟨w.heap.size, 8, none⟩ = some (.int .i64 t8) := cell_of_row _ _ _ _ _ (0, 0) HBC.out.r2
            go_wp2_with fail
            refine (FS.out _).mono ?_
            rintro e w11 ⟨rfl, hb11⟩
            have HB11 := Lib.hid (HBC.out.next hb11)
            clear c0_0 c0_1 c0_2 c0_3 c0_4 c1_0 c1_1 c1_2 c2_0 c2_1 c2_2 c2_3 c2_4 c2_5 c2_6 c2_7 c2_8 hb11 HBC
            have c0_0 : w11.cell? ⟨gx, 0, none⟩ = some (.int .i64 x1) := cell_of_row _ _ _ _ _ (0, 0) HB11.out.r0
            have c0_1 : w11.cell? ⟨gx, 1, none⟩ = some (.int .i64 x2) := cell_of_row _ _ _ _ _ (0, 0) HB11.out.r0
            have c0_2 : w11.cell? ⟨gx, 2, none⟩ = some (.int .i64 x3) := cell_of_row _ _ _ _ _ (0, 0) HB11.out.r0
            have c0_3 : w11.cell? ⟨gx, 3, none⟩ = some (.bool s4) := cell_of_row _ _ _ _ _ (0, 0) HB11.out.r0
            have c0_4 : w11.cell? ⟨gx, 4, none⟩ = some (.int .i64 x5) := cell_of_row _ _ _ _ _ (0, 0) HB11.out.r0
            have c1_0 : w11.cell? ⟨gy, 0, none⟩ = some (.int .i64 yd) := cell_of_row _ _ _ _ _ (0, 0) HB11.out.r1
            have c1_1 : w11.cell? ⟨gy, 1, none⟩ = some (.bool bl) := cell_of_row _ _ _ _ _ (0, 0) HB11.out.r1
            have c1_2 : w11.cell? ⟨gy, 2, none⟩ = some (.bool wt) := cell_of_row _ _ _ _ _ (0, 0) HB11.out.r1
            have c2_0 : w11.cell? ⟨w.heap.size, 0, none⟩ = some (.int .i64 t0) := cell_of_row _ _ _ _ _ (0, 0) HB11.out.r2
            have c2_1 : w11.cell? ⟨w.heap.size, 1, none⟩ = some (.int .i64 t1) := cell_of_row _ _ _ _ _ (0, 0) HB11.out.r2
            have c2_2 : w11.cell? ⟨w.heap.size, 2, none⟩ = some (.int .i64 t2) := cell_of_row _ _ _ _ _ (0, 0) HB11.out.r2
            have c2_3 : w11.cell? ⟨w.heap.size, 3, none⟩ = some (.int .i64 t3) := cell_of_row _ _ _ _ _ (0, 0) HB11.out.r2
            have c2_4 : w11.cell? ⟨w.heap.size, 4, none⟩ = some (.int .i64 t4) := cell_of_row _ _ _ _ _ (0, 0) HB11.out.r2
            have c2_5 : w11.cell? ⟨w.heap.size, 5, none⟩ = some (.int .i64 t5) := cell_of_row _ _ _ _ _ (0, 0) HB11.out.r2
            have c2_6 : w11.cell? ⟨w.heap.size, 6, none⟩ = some (.int .i64 t6) := cell_of_row _ _ _ _ _ (0, 0) HB11.out.r2
            have c2_7 : w11.cell? ⟨w.heap.size, 7, none⟩ = some (.int .i64 t7) := cell_of_row _ _ _ _ _ (0, 0) HB11.out.r2
            have c2_8 : w11.cell? ⟨w.heap.size, 8, none⟩ = some (.int .i64 t8) := cell_of_row _ _ _ _ _ (0, 0) HB11.out.r2
            go_wp2_with (with_reducible show wpList _ _ _ (Oper.mk _ (.store 25 _ _) _ _ _ _ :: _) _ _; refine Hid.out ?_)
            refine Lib.hid ?_
            have l12_0 : gx < w11.heap.size := (Array.getElem?_eq_some_iff.1 HB11.out.r0).1
            have l12_1 : gy < w11.heap.size := (Array.getElem?_eq_some_iff.1 HB11.out.r1).1
            have l12_2 : w.heap.size < w11.heap.size := (Array.getElem?_eq_some_iff.1 HB11.out.r2).1
            have l12_3 : w.heap.size + 1 < w11.heap.size := (Array.getElem?_eq_some_iff.1 HB11.out.r3).1
            have l12_4 : w.heap.size + 2 < w11.heap.size := (Array.getElem?_eq_some_iff.1 HB11.out.r4).1
            have lw12 : w.heap.size ≤ w11.heap.size := HB11.out.below.size
            refine wpList_put rfl 25 _ _ rfl w11.heap.size #[.int .i64 a, .int .i64 b, .int .i64 c, .bool d, .int .i64 e] _ 25 rfl rfl (heap_alloc_new w11 _) (by kernel_rfl) rfl (by kernel_rfl) ?_
            intro w12 hr12 hg12
            have HB12 : Hid (Bx w [(w11.heap.size, .cells #[.int .i64 a, .int .i64 b, .int .i64 c, .bool d, .int .i64 e] 25 (0, 0)), (gx, .cells #[.int .i64 x1, .int .i64 x2, .int .i64 x3, .bool s4, .int .i64 x5] 25 (0, 0)), (gy, .cells #[.int .i64 yd, .bool bl, .bool wt] 27 (0, 0)), (w.heap.size, .cells #[.int .i64 t0, .int .i64 t1, .int .i64 t2, .int .i64 t3, .int .i64 t4, .int .i64 t5, .int .i64 t6, .int .i64 t7, .int .i64 t8] 23 (0, 0)), (w.heap.size + 1, .cells #[.int .i64 s1, .int .i64 s2, .int .i64 s3, .bool s4, .int .i64 s5] 25 (0, 0)), (w.heap.size + 2, .cells #[.int .i64 dd, .bool bl, .bool wt] 27 (0, 0))] w12) := Lib.hid ((HB11.out.make (heap_alloc_new w11 (.cells #[.int .i64 0, .int .i64 0, .int .i64 0, .bool false, .int .i64 0] 25)) ((Below.refl w11.heap.size w11).alloc (Nat.le_refl _) _)).put HB11.out.below.size hg12.out hr12.out (by simp only [List.mem_cons, List.not_mem_nil, or_false]; rintro p (rfl | rfl | rfl | rfl | rfl | rfl) <;> simp <;> omega))
            clear c0_0 c0_1 c0_2 c0_3 c0_4 c1_0 c1_1 c1_2 c2_0 c2_1 c2_2 c2_3 c2_4 c2_5 c2_6 c2_7 c2_8 hr12 hg12 HB11
            generalize w11.heap.size = ga at *
            have c1_0 : w12.cell? ⟨gx, 0, none⟩ = some (.int .i64 x1) := cell_of_row _ _ _ _ _ (0, 0) HB12.out.r1
            have c1_1 : w12.cell? ⟨gx, 1, none⟩ = some (.int .i64 x2) := cell_of_row _ _ _ _ _ (0, 0) HB12.out.r1
            have c1_2 : w12.cell? ⟨gx, 2, none⟩ = some (.int .i64 x3) := cell_of_row _ _ _ _ _ (0, 0) HB12.out.r1
            have c1_3 : w12.cell? ⟨gx, 3, none⟩ = some (.bool s4) := cell_of_row _ _ _ _ _ (0, 0) HB12.out.r1
            have c1_4 : w12.cell? ⟨gx, 4, none⟩ = some (.int .i64 x5) := cell_of_row _ _ _ _ _ (0, 0) HB12.out.r1
            have c2_0 : w12.cell? ⟨gy, 0, none⟩ = some (.int .i64 yd) := cell_of_row _ _ _ _ _ (0, 0) HB12.out.r2
            have c2_1 : w12.cell? ⟨gy, 1, none⟩ = some (.bool bl) := cell_of_row _ _ _ _ _ (0, 0) HB12.out.r2
            have c2_2 : w12.cell? ⟨gy, 2, none⟩ = some (.bool wt) := cell_of_row _ _ _ _ _ (0, 0) HB12.out.r2
            have c3_0 : w12.cell? ⟨w.heap.size, 0, none⟩ = some (.int .i64 t0) := cell_of_row _ _ _ _ _ (0, 0) HB12.out.r3
            have c3_1 : w12.cell? ⟨w.heap.size, 1, none⟩ = some (.int .i64 t1) := cell_of_row _ _ _ _ _ (0, 0) HB12.out.r3
            have c3_2 : w12.cell? ⟨w.heap.size, 2, none⟩ = some (.int .i64 t2) := cell_of_row _ _ _ _ _ (0, 0) HB12.out.r3
            have c3_3 : w12.cell? ⟨w.heap.size, 3, none⟩ = some (.int .i64 t3) := cell_of_row _ _ _ _ _ (0, 0) HB12.out.r3
            have c3_4 : w12.cell? ⟨w.heap.size, 4, none⟩ = some (.int .i64 t4) := cell_of_row _ _ _ _ _ (0, 0) HB12.out.r3
            have c3_5 : w12.cell? ⟨w.heap.size, 5, none⟩ = some (.int .i64 t5) := cell_of_row _ _ _ _ _ (0, 0) HB12.out.r3
            have c3_6 : w12.cell? ⟨w.heap.size, 6, none⟩ = some (.int .i64 t6) := cell_of_row _ _ _ _ _ (0, 0) HB12.out.r3
            have c3_7 : w12.cell? ⟨w.heap.size, 7, none⟩ = some (.int .i64 t7) := cell_of_row _ _ _ _ _ (0, 0) HB12.out.r3
            have c3_8 : w12.cell? ⟨w.heap.size, 8, none⟩ = some (.int .i64 t8) := cell_of_row _ _ _ _ _ (0, 0) HB12.out.r3
            go_wp2_with fail
            refine (FR.out _).mono ?_
            rintro e w13 ⟨rfl, hb13⟩
            have HB13 := Lib.hid (HB12.out.next hb13)
            clear c1_0 c1_1 c1_2 c1_3 c1_4 c2_0 c2_1 c2_2 c3_0 c3_1 c3_2 c3_3 c3_4 c3_5 c3_6 c3_7 c3_8 hb13 HB12
            have c1_0 : w13.cell? ⟨gx, 0, none⟩ = some (.int .i64 x1) := cell_of_row _ _ _ _ _ (0, 0) HB13.out.r1
            have c1_1 : w13.cell? ⟨gx, 1, none⟩ = some (.int .i64 x2) := cell_of_row _ _ _ _ _ (0, 0) HB13.out.r1
            have c1_2 : w13.cell? ⟨gx, 2, none⟩ = some (.int .i64 x3) := cell_of_row _ _ _ _ _ (0, 0) HB13.out.r1
            have c1_3 : w13.cell? ⟨gx, 3, none⟩ = some (.bool s4) := cell_of_row _ _ _ _ _ (0, 0) HB13.out.r1
            have c1_4 : w13.cell? ⟨gx, 4, none⟩ = some (.int .i64 x5) := cell_of_row _ _ _ _ _ (0, 0) HB13.out.r1
            have c2_0 : w13.cell? ⟨gy, 0, none⟩ = some (.int .i64 yd) := cell_of_row _ _ _ _ _ (0, 0) HB13.out.r2
            have c2_1 : w13.cell? ⟨gy, 1, none⟩ = some (.bool bl) := cell_of_row _ _ _ _ _ (0, 0) HB13.out.r2
            have c2_2 : w13.cell? ⟨gy, 2, none⟩ = some (.bool wt) := cell_of_row _ _ _ _ _ (0, 0) HB13.out.r2
            have c3_0 : w13.cell? ⟨w.heap.size, 0, none⟩ = some (.int .i64 t0) := cell_of_row _ _ _ _ _ (0, 0) HB13.out.r3
            have c3_1 : w13.cell? ⟨w.heap.size, 1, none⟩ = some (.int .i64 t1) := cell_of_row _ _ _ _ _ (0, 0) HB13.out.r3
            have c3_2 : w13.cell? ⟨w.heap.size, 2, none⟩ = some (.int .i64 t2) := cell_of_row _ _ _ _ _ (0, 0) HB13.out.r3
            have c3_3 : w13.cell? ⟨w.heap.size, 3, none⟩ = some (.int .i64 t3) := cell_of_row _ _ _ _ _ (0, 0) HB13.out.r3
            have c3_4 : w13.cell? ⟨w.heap.size, 4, none⟩ = some (.int .i64 t4) := cell_of_row _ _ _ _ _ (0, 0) HB13.out.r3
            have c3_5 : w13.cell? ⟨w.heap.size, 5, none⟩ = some (.int .i64 t5) := cell_of_row _ _ _ _ _ (0, 0) HB13.out.r3
            have c3_6 : w13.cell? ⟨w.heap.size, 6, none⟩ = some (.int .i64 t6) := cell_of_row _ _ _ _ _ (0, 0) HB13.out.r3
            have c3_7 : w13.cell? ⟨w.heap.size, 7, none⟩ = some (.int .i64 t7) := cell_of_row _ _ _ _ _ (0, 0) HB13.out.r3
            have c3_8 : w13.cell? ⟨w.heap.size, 8, none⟩ = some (.int .i64 t8) := cell_of_row _ _ _ _ _ (0, 0) HB13.out.r3
            go_wp2_with (with_reducible show wpList _ _ _ (Oper.mk _ (.store 25 _ _) _ _ _ _ :: _) _ _; refine Hid.out ?_)
            refine Lib.hid ?_
            have l14_0 : ga < w13.heap.size := (Array.getElem?_eq_some_iff.1 HB13.out.r0).1
            have l14_1 : gx < w13.heap.size := (Array.getElem?_eq_some_iff.1 HB13.out.r1).1
            have l14_2 : gy < w13.heap.size := (Array.getElem?_eq_some_iff.1 HB13.out.r2).1
            have l14_3 : w.heap.size < w13.heap.size := (Array.getElem?_eq_some_iff.1 HB13.out.r3).1
            have l14_4 : w.heap.size + 1 < w13.heap.size := (Array.getElem?_eq_some_iff.1 HB13.out.r4).1
            have l14_5 : w.heap.size + 2 < w13.heap.size := (Array.getElem?_eq_some_iff.1 HB13.out.r5).1
            have lw14 : w.heap.size ≤ w13.heap.size := HB13.out.below.size
            refine wpList_put rfl 25 _ _ rfl w13.heap.size #[.int .i64 a, .int .i64 b, .int .i64 c, .bool d, .int .i64 e] _ 25 rfl rfl (heap_alloc_new w13 _) (by kernel_rfl) rfl (by kernel_rfl) ?_
            intro w14 hr14 hg14
            have HB14 : Hid (Bx w [(w13.heap.size, .cells #[.int .i64 a, .int .i64 b, .int .i64 c, .bool d, .int .i64 e] 25 (0, 0)), (ga, .cells #[.int .i64 a, .int .i64 b, .int .i64 c, .bool d, .int .i64 e] 25 (0, 0)), (gx, .cells #[.int .i64 x1, .int .i64 x2, .int .i64 x3, .bool s4, .int .i64 x5] 25 (0, 0)), (gy, .cells #[.int .i64 yd, .bool bl, .bool wt] 27 (0, 0)), (w.heap.size, .cells #[.int .i64 t0, .int .i64 t1, .int .i64 t2, .int .i64 t3, .int .i64 t4, .int .i64 t5, .int .i64 t6, .int .i64 t7, .int .i64 t8] 23 (0, 0)), (w.heap.size + 1, .cells #[.int .i64 s1, .int .i64 s2, .int .i64 s3, .bool s4, .int .i64 s5] 25 (0, 0)), (w.heap.size + 2, .cells #[.int .i64 dd, .bool bl, .bool wt] 27 (0, 0))] w14) := Lib.hid ((HB13.out.make (heap_alloc_new w13 (.cells #[.int .i64 0, .int .i64 0, .int .i64 0, .bool false, .int .i64 0] 25)) ((Below.refl w13.heap.size w13).alloc (Nat.le_refl _) _)).put HB13.out.below.size hg14.out hr14.out (by simp only [List.mem_cons, List.not_mem_nil, or_false]; rintro p (rfl | rfl | rfl | rfl | rfl | rfl | rfl) <;> simp <;> omega))
            clear c1_0 c1_1 c1_2 c1_3 c1_4 c2_0 c2_1 c2_2 c3_0 c3_1 c3_2 c3_3 c3_4 c3_5 c3_6 c3_7 c3_8 hr14 hg14 HB13
            generalize w13.heap.size = gb at *
            go_wp2_with fail
            refine Bag.region (fun wx => Below w14.heap.size w14 wx) (by kernel_rfl) (by kernel_rfl) (Below.refl _ _).drew ?_
            iterate 36 (first
                | (apply Bag.walk_yes (by rfl)
                   (intro wx hx K hK
                    have HXx := HB14.out.next hx
                    have z0_0 : wx.cell? ⟨gb, 0, none⟩ = some (.int .i64 a) := cell_of_row _ _ _ _ _ (0, 0) HXx.r0
                    have z0_1 : wx.cell? ⟨gb, 1, none⟩ = some (.int .i64 b) := cell_of_row _ _ _ _ _ (0, 0) HXx.r0
                    have z0_2 : wx.cell? ⟨gb, 2, none⟩ = some (.int .i64 c) := cell_of_row _ _ _ _ _ (0, 0) HXx.r0
                    have z0_3 : wx.cell? ⟨gb, 3, none⟩ = some (.bool d) := cell_of_row _ _ _ _ _ (0, 0) HXx.r0
                    have z0_4 : wx.cell? ⟨gb, 4, none⟩ = some (.int .i64 e) := cell_of_row _ _ _ _ _ (0, 0) HXx.r0
                    have z1_0 : wx.cell? ⟨ga, 0, none⟩ = some (.int .i64 a) := cell_of_row _ _ _ _ _ (0, 0) HXx.r1
                    have z1_1 : wx.cell? ⟨ga, 1, none⟩ = some (.int .i64 b) := cell_of_row _ _ _ _ _ (0, 0) HXx.r1
                    have z1_2 : wx.cell? ⟨ga, 2, none⟩ = some (.int .i64 c) := cell_of_row _ _ _ _ _ (0, 0) HXx.r1
                    have z1_3 : wx.cell? ⟨ga, 3, none⟩ = some (.bool d) := cell_of_row _ _ _ _ _ (0, 0) HXx.r1
                    have z1_4 : wx.cell? ⟨ga, 4, none⟩ = some (.int .i64 e) := cell_of_row _ _ _ _ _ (0, 0) HXx.r1
                    have z2_0 : wx.cell? ⟨gx, 0, none⟩ = some (.int .i64 x1) := cell_of_row _ _ _ _ _ (0, 0) HXx.r2
                    have z2_1 : wx.cell? ⟨gx, 1, none⟩ = some (.int .i64 x2) := cell_of_row _ _ _ _ _ (0, 0) HXx.r2
                    have z2_2 : wx.cell? ⟨gx, 2, none⟩ = some (.int .i64 x3) := cell_of_row _ _ _ _ _ (0, 0) HXx.r2
                    have z2_3 : wx.cell? ⟨gx, 3, none⟩ = some (.bool s4) := cell_of_row _ _ _ _ _ (0, 0) HXx.r2
                    have z2_4 : wx.cell? ⟨gx, 4, none⟩ = some (.int .i64 x5) := cell_of_row _ _ _ _ _ (0, 0) HXx.r2
                    have z4_0 : wx.cell? ⟨w.heap.size, 0, none⟩ = some (.int .i64 t0) := cell_of_row _ _ _ _ _ (0, 0) HXx.r4
                    have z4_1 : wx.cell? ⟨w.heap.size, 1, none⟩ = some (.int .i64 t1) := cell_of_row _ _ _ _ _ (0, 0) HXx.r4
                    have z4_2 : wx.cell? ⟨w.heap.size, 2, none⟩ = some (.int .i64 t2) := cell_of_row _ _ _ _ _ (0, 0) HXx.r4
                    have z4_3 : wx.cell? ⟨w.heap.size, 3, none⟩ = some (.int .i64 t3) := cell_of_row _ _ _ _ _ (0, 0) HXx.r4
                    have z4_4 : wx.cell? ⟨w.heap.size, 4, none⟩ = some (.int .i64 t4) := cell_of_row _ _ _ _ _ (0, 0) HXx.r4
                    have z4_5 : wx.cell? ⟨w.heap.size, 5, none⟩ = some (.int .i64 t5) := cell_of_row _ _ _ _ _ (0, 0) HXx.r4
                    have z4_6 : wx.cell? ⟨w.heap.size, 6, none⟩ = some (.int .i64 t6) := cell_of_row _ _ _ _ _ (0, 0) HXx.r4
                    have z4_7 : wx.cell? ⟨w.heap.size, 7, none⟩ = some (.int .i64 t7) := cell_of_row _ _ _ _ _ (0, 0) HXx.r4
                    have z4_8 : wx.cell? ⟨w.heap.size, 8, none⟩ = some (.int .i64 t8) := cell_of_row _ _ _ _ _ (0, 0) HXx.r4
                    first
                      | (go_simp
                         first
                          | (go_at_call 9; (with_reducible refine (FI1.out _).mono ?_); rintro e x1 ⟨rfl, hb⟩; exact hK _ (hx.trans (hb.mono hx.size)))
                          | (go_at_call 10; (with_reducible refine (FI2.out _).mono ?_); rintro e x1 ⟨rfl, hb⟩; exact hK _ (hx.trans (hb.mono hx.size)))
                          | (go_at_call 10; (with_reducible refine (FI3.out _).mono ?_); rintro e x1 ⟨rfl, hb⟩; exact hK _ (hx.trans (hb.mono hx.size)))
                          | (go_at_call 11; (with_reducible refine (FK1.out _).mono ?_); rintro e x1 ⟨rfl, hb⟩; exact hK _ (hx.trans (hb.mono hx.size)))
                          | (go_at_call 12; (with_reducible refine (FK2.out _).mono ?_); rintro e x1 ⟨rfl, hb⟩; exact hK _ (hx.trans (hb.mono hx.size)))
                          | (go_at_call 13; (with_reducible refine (FL1.out _).mono ?_); rintro e x1 ⟨rfl, hb⟩; exact hK _ (hx.trans (hb.mono hx.size)))
                          | (go_at_call 14; (with_reducible refine (FL2.out _).mono ?_); rintro e x1 ⟨rfl, hb⟩; exact hK _ (hx.trans (hb.mono hx.size)))
                          | (go_at_K; exact hK _ hx)))
                   rfl)
                | (refine Bag.walk_no (by rfl) ?_; simp only [Act.put, List.setIfInBounds_toArray, List.set_cons_succ, List.set_cons_zero]))
            refine Bag.walk_nil (fun w15 hb15 => ?_)
            have HB15 := Lib.hid (HB14.out.next hb15)
            clear hb15 HB14
            go_wp2_with fail
            go_roundw
            case rel => exact ⟨k + 1, by omega, by go_num, (HB15.out.less (by simp only [List.mem_cons, List.not_mem_nil, or_false]; rintro p (rfl | rfl | rfl) <;> simp))⟩
            case measure => simp [intOf]; omega
        · obtain rfl : k = 3 := by omega
          obtain ⟨hq1, hql⟩ := HQ.out
          have hwq : IntKind.i64.wrap (q + 1) = q + 1 := by rw [IntKind.wrap_i64]; omega
          go_wp2_with fail
          go_roundw
          case rel => exact ⟨q + 1, by omega, by omega, by go_num, HBR.out⟩
          case measure => simp [intOf]; omega
    · have hqB : decide (q < 5) = false := decide_eq_false hql
      go_wp2_with fail
      refine (FN.out _).mono ?_
      rintro e w81 ⟨rfl, hb81⟩
      have HB81 := Lib.hid (HBQ.out.next hb81)
      clear hb81 HBQ
      go_wp2_with fail
      go_ret
      exact ⟨rfl, HB81.out.below⟩
set_option maxRecDepth 100000 in
theorem lawDoorSteps_lifted (os : Os) (started : os.Started) (H : Type) (enc : TypeId × Value → H) :
    ReturnsInHanded {} Try.checked os 3 .any (Rows.doorStepsSpec.pre6 enc Try.prog Try.f3 Rows.doorStepsRow.domain false) (Rows.doorStepsSpec.post enc Try.prog Try.f3 false true false false) := by
  refine returnsInHanded_of_change (C := Try.checked) own started (by kernel_rfl) Try.func3
    (ChangeSpec.witness6 (enc := enc) (C := Try.checked) false ⟨#[], #[.agg #[.int .i64 0, .int .i64 0, .int .i64 0, .int .i64 0, .int .i64 0, .int .i64 0, .int .i64 0, .int .i64 0, .int .i64 0], .agg #[.int .i64 0, .int .i64 0, .int .i64 0, .bool false, .int .i64 0], .agg #[.int .i64 0, .bool false, .bool false]], []⟩ 8 (by kernel_rfl) (by kernel_rfl) (by kernel_rfl) (by kernel_rfl)) ?_
  intro W base args ds gs before hval0 hW hcnd _
  have hval : ∀ (j : Nat) t v, Try.f3.params[j]? = some t → args[j]? = some v → Value.okWide Try.prog W .any base t v := hval0
  have hW' := hW
  obtain ⟨p, q, hA0, hV, rfl, hfz, hnd⟩ := hW
  have hA : DataW.TrodAll enc Try.prog W 0 (fun _ => true) true Try.f3.params.toList args.toList ds p := hA0
  rw [Try.params3] at hA hval
  obtain ⟨v0, vs0, d0, ds0, p0, q0, hargs, rfl, rfl, h0, r0⟩ := trodAll_cons hA
  obtain ⟨v1, vs1, d1, ds1, p1, q1, rfl, rfl, rfl, h1, r1⟩ := trodAll_cons r0
  obtain ⟨v2, vs2, d2, ds2, p2, q2, rfl, rfl, rfl, h2, r2⟩ := trodAll_cons r1
  obtain ⟨rfl, rfl, rfl⟩ := trodAll_nil r2
  obtain rfl : args = #[v0, v1, v2] := by cases args; simp_all
  obtain ⟨rfl, rfl⟩ := trodVars_none hV
  have k0 := h0
  have lt0 : ∀ x ∈ p0, x.block < W.heap.size := by obtain ⟨m, hm⟩ := k0; exact DataW.trod_lt m _ _ _ hm
  obtain ⟨x0, rfl⟩ := open_car (hval 0 23 v0 rfl rfl) h0
  have k1 := h1
  have lt1 : ∀ x ∈ p1, x.block < W.heap.size := by obtain ⟨m, hm⟩ := k1; exact DataW.trod_lt m _ _ _ hm
  obtain ⟨x1, rfl⟩ := open_dr (hval 1 25 v1 rfl rfl) h1
  have k2 := h2
  have lt2 : ∀ x ∈ p2, x.block < W.heap.size := by obtain ⟨m, hm⟩ := k2; exact DataW.trod_lt m _ _ _ hm
  obtain ⟨x2, rfl⟩ := open_tk (hval 2 27 v2 rfl rfl) h2
  clear hA0 hval0
  refine (lawDoorSteps_walk x0 x1 x2 W ).mono fun e W' ⟨he, bel⟩ => ?_
  subst he
  exact ⟨_, rfl, _, _, _, [], _, [], hW', trodAll_mk1 (shut_bool Try.underlying4 _), (trodAll_cons_mk (Below.trod laidOut (by kernel_rfl) (of_decide_eq_true (by kernel_rfl)) k0 bel lt0) (trodAll_cons_mk (Below.trod laidOut (by kernel_rfl) (of_decide_eq_true (by kernel_rfl)) k1 bel lt1) (trodAll_cons_mk (Below.trod laidOut (by kernel_rfl) (of_decide_eq_true (by kernel_rfl)) k2 bel lt2) trodAll_mk0))), rfl, bel.frame _, fun h => by cases h⟩

theorem lawDoorSteps_over : Rows.doorStepsRow.holds Try.pinned (OpenSpec.ofChange Rows.doorStepsSpec) :=
  OpenClaim.holds_of_wide 3 Try.f3 rfl rfl rfl rfl rfl rfl rfl ⟨rfl, rfl, rfl, rfl, rfl⟩ rfl rfl rfl rfl rfl (by kernel_rfl) Try.func3 (by kernel_rfl)
    (of_decide_eq_true (by kernel_rfl)) (by unfold Func.isWrapper; first | (rw [if_pos (by decide +kernel)]; kernel_rfl) | (rw [if_neg (by decide +kernel)]; exact ⟨rfl, rfl⟩))
    (fun os started H enc _ => lawDoorSteps_lifted os started H enc)

theorem doorSteps_holds : Rows.DoorStepsSaid := lawDoorSteps_over
#print axioms doorSteps_holds
end Go.Proofs.Ythniolaeicmjlaa
