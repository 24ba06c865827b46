/- The reference's Choose and Next where the arguments are proper. No statement of the seat is proved here. -/
import Derived.Test.YteniimbcbjbegaaDoorCvRefD
import Derived.Test.YteniimbcbjbegaaDoorCvTop
namespace Go.Proofs.YteniimbcbjbegaaDoor
open Go.RowKit Ghost

set_option maxHeartbeats 8000000 in
theorem refChooseGood_any (F f d o : Nat) (s : Stp) (w : World) (hF1 : 2 ≤ F) (hF : F ≤ 32) (hf : f < F) (hd : d ≤ 2) (ho : o ≤ 7) (hs : s.ok) :
    Calls Tryd.prog 17 #[.int .i64 (F : Int), .agg #[.int .i64 (d : Int), .int .i64 (o : Int)], .int .i64 (f : Int), s.agg] w fun ee w' => ee = .returned ((Cv.choose (Cv.look F o f s) d).agg) ∧ Below w.heap.size w w' := by
  have g1 : ¬ (F : Int) < 2 := by omega
  have g2 : ¬ (32 : Int) < (F : Int) := by omega
  have g3 : ¬ (f : Int) < 0 := by omega
  have g4 : ¬ (F : Int) ≤ (f : Int) := by omega
  have g5 : decide ((F : Int) > 32) = false := decide_eq_false (by omega)
  have g6 : decide ((f : Int) ≥ (F : Int)) = false := decide_eq_false (by omega)
  have FI := Lib.hid (fun wx => refIsSweep_any (d : Int) (o : Int) wx)
  rw [show isSw (d : Int) (o : Int) = true by unfold isSw; simp; omega] at FI
  have FP := Lib.hid (fun wx => refProper_any F s wx (by omega) hF hs)
  have FL := Lib.hid (fun wx => refLook_any F f d o s wx hF1 hF hf hd ho hs)
  have hnl : (Cv.look F o f s).nr < 3 := Cv.near_lt _ _
  generalize Cv.look F o f s = x at *
  generalize Cv.cnt F s = t at *
  obtain ⟨s1, s2, s3⟩ := s
  obtain ⟨t1, t2, t3⟩ := t
  obtain ⟨xu, xd, xc, xa, xb, xn⟩ := x
  simp only [Stp.agg] at *
  clear hs ho hf hF hF1
  have hd3 : d = 0 ∨ d = 1 ∨ d = 2 := by omega
  clear hd
  rcases hd3 with rfl | rfl | rfl
  · have FO1 := Lib.hid (fun wx => refOpenC_any 1 wx)
    have FO2 := Lib.hid (fun wx => refOpenC_any 2 wx)
    have FON := Lib.hid (fun wx => refOpenC_any xn wx)
    have FMN := Lib.hid (fun wx => refMoveC_any xn wx hnl)
    simp only [Cv.openC, Cv.moveC, Cv.Ch.agg] at FO1 FO2 FON FMN
    have HB0 := Lib.hid (bxs3 w (.cells #[.int .i64 ((0 : Nat) : Int), .int .i64 (o : Int)] 23) (.cells #[.int .u32 s1, .int .u32 s2, .int .u32 s3] 30) (.cells #[.int .i64 0, .int .i64 0, .int .i64 0] 38))
    go_enter Tryd.func17, Tryd.ntmps17
    go_wp2_with fail
    refine (FI.out _).mono ?_
    rintro e w1 ⟨rfl, hb1⟩
    have HB1 := Lib.hid (HB0.out.next hb1)
    clear hb1 HB0
    go_wp2_with fail
    have q0 : w.heap.size < w1.heap.size := (Array.getElem?_eq_some_iff.1 HB1.out.r0).1
    have q1 : w.heap.size + 1 < w1.heap.size := (Array.getElem?_eq_some_iff.1 HB1.out.r1).1
    have q2 : w.heap.size + 2 < w1.heap.size := (Array.getElem?_eq_some_iff.1 HB1.out.r2).1
    refine Ghost.ghost (fun γ L wx => Decls (w1).heap.size (w1) [(⟨7, 8, 59, #[.bool false, .bool false, .bool false, .bool false, .bool false, .int .i64 0], #[.bool xu, .bool xd, .bool xc, .bool xa, .bool xb, .int .i64 (xn : Int)]⟩ : Decl)] γ L wx) (by kernel_rfl) (by kernel_rfl) (fun γ => Decls.start _ γ (Below.refl _ _).drew (Nat.le_refl _)) ?_
    apply Ghost.walk_const (fun γ => by rfl)
    · intro γ L wx h1 h2 hx K hK
      have HXx := HB1.out.next hx.below
      have z0_0 : wx.cell? ⟨w.heap.size, 0, none⟩ = some (.int .i64 ((0 : Nat) : Int)) := cell_of_row _ _ _ _ _ (0, 0) HXx.r0
      have z0_1 : wx.cell? ⟨w.heap.size, 1, none⟩ = some (.int .i64 (o : Int)) := cell_of_row _ _ _ _ _ (0, 0) HXx.r0
      have z1_0 : wx.cell? ⟨w.heap.size + 1, 0, none⟩ = some (.int .u32 s1) := cell_of_row _ _ _ _ _ (0, 0) HXx.r1
      have z1_1 : wx.cell? ⟨w.heap.size + 1, 1, none⟩ = some (.int .u32 s2) := cell_of_row _ _ _ _ _ (0, 0) HXx.r1
      have z1_2 : wx.cell? ⟨w.heap.size + 1, 2, none⟩ = some (.int .u32 s3) := cell_of_row _ _ _ _ _ (0, 0) HXx.r1
      have HK2 := Lib.hid hK
      have HX := Lib.hid hx
      clear hK h1 h2 hx
      go_simp
      first
        | (go_at_call 27; refine (FP.out _).mono ?_; rintro e x1 ⟨rfl, hb⟩; exact HK2.out _ (HX.out.quiet 0 (by rfl) hb))
        | (go_at_call 26; refine (FL.out _).mono ?_; rintro e x1 ⟨rfl, hb⟩; exact HK2.out _ (HX.out.quiet 0 (by rfl) hb))
        | exact HK2.out _ (HX.out.quiet 0 (by rfl) (Below.refl _ _))
    simp only [Act.put, List.setIfInBounds_toArray, List.set_cons_succ, List.set_cons_zero]
    apply Ghost.walk_const (fun γ => by rfl)
    · intro γ L wx h1 h2 hx K hK
      have HXx := HB1.out.next hx.below
      have z0_0 : wx.cell? ⟨w.heap.size, 0, none⟩ = some (.int .i64 ((0 : Nat) : Int)) := cell_of_row _ _ _ _ _ (0, 0) HXx.r0
      have z0_1 : wx.cell? ⟨w.heap.size, 1, none⟩ = some (.int .i64 (o : Int)) := cell_of_row _ _ _ _ _ (0, 0) HXx.r0
      have z1_0 : wx.cell? ⟨w.heap.size + 1, 0, none⟩ = some (.int .u32 s1) := cell_of_row _ _ _ _ _ (0, 0) HXx.r1
      have z1_1 : wx.cell? ⟨w.heap.size + 1, 1, none⟩ = some (.int .u32 s2) := cell_of_row _ _ _ _ _ (0, 0) HXx.r1
      have z1_2 : wx.cell? ⟨w.heap.size + 1, 2, none⟩ = some (.int .u32 s3) := cell_of_row _ _ _ _ _ (0, 0) HXx.r1
      have HK2 := Lib.hid hK
      have HX := Lib.hid hx
      clear hK h1 h2 hx
      go_simp
      first
        | (go_at_call 27; refine (FP.out _).mono ?_; rintro e x1 ⟨rfl, hb⟩; exact HK2.out _ (HX.out.quiet 0 (by rfl) hb))
        | (go_at_call 26; refine (FL.out _).mono ?_; rintro e x1 ⟨rfl, hb⟩; exact HK2.out _ (HX.out.quiet 0 (by rfl) hb))
        | exact HK2.out _ (HX.out.quiet 0 (by rfl) (Below.refl _ _))
    simp only [Act.put, List.setIfInBounds_toArray, List.set_cons_succ, List.set_cons_zero]
    apply Ghost.walk_const (fun γ => by rfl)
    · intro γ L wx h1 h2 hx K hK
      have HXx := HB1.out.next hx.below
      have z0_0 : wx.cell? ⟨w.heap.size, 0, none⟩ = some (.int .i64 ((0 : Nat) : Int)) := cell_of_row _ _ _ _ _ (0, 0) HXx.r0
      have z0_1 : wx.cell? ⟨w.heap.size, 1, none⟩ = some (.int .i64 (o : Int)) := cell_of_row _ _ _ _ _ (0, 0) HXx.r0
      have z1_0 : wx.cell? ⟨w.heap.size + 1, 0, none⟩ = some (.int .u32 s1) := cell_of_row _ _ _ _ _ (0, 0) HXx.r1
      have z1_1 : wx.cell? ⟨w.heap.size + 1, 1, none⟩ = some (.int .u32 s2) := cell_of_row _ _ _ _ _ (0, 0) HXx.r1
      have z1_2 : wx.cell? ⟨w.heap.size + 1, 2, none⟩ = some (.int .u32 s3) := cell_of_row _ _ _ _ _ (0, 0) HXx.r1
      have HK2 := Lib.hid hK
      have HX := Lib.hid hx
      clear hK h1 h2 hx
      go_simp
      first
        | (go_at_call 27; refine (FP.out _).mono ?_; rintro e x1 ⟨rfl, hb⟩; exact HK2.out _ (HX.out.quiet 0 (by rfl) hb))
        | (go_at_call 26; refine (FL.out _).mono ?_; rintro e x1 ⟨rfl, hb⟩; exact HK2.out _ (HX.out.quiet 0 (by rfl) hb))
        | exact HK2.out _ (HX.out.quiet 0 (by rfl) (Below.refl _ _))
    simp only [Act.put, List.setIfInBounds_toArray, List.set_cons_succ, List.set_cons_zero]
    apply Ghost.walk_const (fun γ => by rfl)
    · intro γ L wx h1 h2 hx K hK
      have HXx := HB1.out.next hx.below
      have z0_0 : wx.cell? ⟨w.heap.size, 0, none⟩ = some (.int .i64 ((0 : Nat) : Int)) := cell_of_row _ _ _ _ _ (0, 0) HXx.r0
      have z0_1 : wx.cell? ⟨w.heap.size, 1, none⟩ = some (.int .i64 (o : Int)) := cell_of_row _ _ _ _ _ (0, 0) HXx.r0
      have z1_0 : wx.cell? ⟨w.heap.size + 1, 0, none⟩ = some (.int .u32 s1) := cell_of_row _ _ _ _ _ (0, 0) HXx.r1
      have z1_1 : wx.cell? ⟨w.heap.size + 1, 1, none⟩ = some (.int .u32 s2) := cell_of_row _ _ _ _ _ (0, 0) HXx.r1
      have z1_2 : wx.cell? ⟨w.heap.size + 1, 2, none⟩ = some (.int .u32 s3) := cell_of_row _ _ _ _ _ (0, 0) HXx.r1
      have HK2 := Lib.hid hK
      have HX := Lib.hid hx
      clear hK h1 h2 hx
      go_simp
      first
        | (go_at_call 27; refine (FP.out _).mono ?_; rintro e x1 ⟨rfl, hb⟩; exact HK2.out _ (HX.out.quiet 0 (by rfl) hb))
        | (go_at_call 26; refine (FL.out _).mono ?_; rintro e x1 ⟨rfl, hb⟩; exact HK2.out _ (HX.out.quiet 0 (by rfl) hb))
        | exact HK2.out _ (HX.out.quiet 0 (by rfl) (Below.refl _ _))
    simp only [Act.put, List.setIfInBounds_toArray, List.set_cons_succ, List.set_cons_zero]
    apply Ghost.walk_const (fun γ => by rfl)
    · intro γ L wx h1 h2 hx K hK
      have HXx := HB1.out.next hx.below
      have z0_0 : wx.cell? ⟨w.heap.size, 0, none⟩ = some (.int .i64 ((0 : Nat) : Int)) := cell_of_row _ _ _ _ _ (0, 0) HXx.r0
      have z0_1 : wx.cell? ⟨w.heap.size, 1, none⟩ = some (.int .i64 (o : Int)) := cell_of_row _ _ _ _ _ (0, 0) HXx.r0
      have z1_0 : wx.cell? ⟨w.heap.size + 1, 0, none⟩ = some (.int .u32 s1) := cell_of_row _ _ _ _ _ (0, 0) HXx.r1
      have z1_1 : wx.cell? ⟨w.heap.size + 1, 1, none⟩ = some (.int .u32 s2) := cell_of_row _ _ _ _ _ (0, 0) HXx.r1
      have z1_2 : wx.cell? ⟨w.heap.size + 1, 2, none⟩ = some (.int .u32 s3) := cell_of_row _ _ _ _ _ (0, 0) HXx.r1
      have HK2 := Lib.hid hK
      have HX := Lib.hid hx
      clear hK h1 h2 hx
      go_simp
      first
        | (go_at_call 27; refine (FP.out _).mono ?_; rintro e x1 ⟨rfl, hb⟩; exact HK2.out _ (HX.out.quiet 0 (by rfl) hb))
        | (go_at_call 26; refine (FL.out _).mono ?_; rintro e x1 ⟨rfl, hb⟩; exact HK2.out _ (HX.out.quiet 0 (by rfl) hb))
        | exact HK2.out _ (HX.out.quiet 0 (by rfl) (Below.refl _ _))
    simp only [Act.put, List.setIfInBounds_toArray, List.set_cons_succ, List.set_cons_zero]
    apply Ghost.walk_const (fun γ => by rfl)
    · intro γ L wx h1 h2 hx K hK
      have HXx := HB1.out.next hx.below
      have z0_0 : wx.cell? ⟨w.heap.size, 0, none⟩ = some (.int .i64 ((0 : Nat) : Int)) := cell_of_row _ _ _ _ _ (0, 0) HXx.r0
      have z0_1 : wx.cell? ⟨w.heap.size, 1, none⟩ = some (.int .i64 (o : Int)) := cell_of_row _ _ _ _ _ (0, 0) HXx.r0
      have z1_0 : wx.cell? ⟨w.heap.size + 1, 0, none⟩ = some (.int .u32 s1) := cell_of_row _ _ _ _ _ (0, 0) HXx.r1
      have z1_1 : wx.cell? ⟨w.heap.size + 1, 1, none⟩ = some (.int .u32 s2) := cell_of_row _ _ _ _ _ (0, 0) HXx.r1
      have z1_2 : wx.cell? ⟨w.heap.size + 1, 2, none⟩ = some (.int .u32 s3) := cell_of_row _ _ _ _ _ (0, 0) HXx.r1
      have HK2 := Lib.hid hK
      have HX := Lib.hid hx
      clear hK h1 h2 hx
      go_simp
      first
        | (go_at_call 27; refine (FP.out _).mono ?_; rintro e x1 ⟨rfl, hb⟩; exact HK2.out _ (HX.out.quiet 0 (by rfl) hb))
        | (go_at_call 26; refine (FL.out _).mono ?_; rintro e x1 ⟨rfl, hb⟩; exact HK2.out _ (HX.out.quiet 0 (by rfl) hb))
        | exact HK2.out _ (HX.out.quiet 0 (by rfl) (Below.refl _ _))
    simp only [Act.put, List.setIfInBounds_toArray, List.set_cons_succ, List.set_cons_zero]
    apply Ghost.walk_const (fun γ => by rfl)
    · intro γ L wx h1 h2 hx K hK
      have HXx := HB1.out.next hx.below
      have z0_0 : wx.cell? ⟨w.heap.size, 0, none⟩ = some (.int .i64 ((0 : Nat) : Int)) := cell_of_row _ _ _ _ _ (0, 0) HXx.r0
      have z0_1 : wx.cell? ⟨w.heap.size, 1, none⟩ = some (.int .i64 (o : Int)) := cell_of_row _ _ _ _ _ (0, 0) HXx.r0
      have z1_0 : wx.cell? ⟨w.heap.size + 1, 0, none⟩ = some (.int .u32 s1) := cell_of_row _ _ _ _ _ (0, 0) HXx.r1
      have z1_1 : wx.cell? ⟨w.heap.size + 1, 1, none⟩ = some (.int .u32 s2) := cell_of_row _ _ _ _ _ (0, 0) HXx.r1
      have z1_2 : wx.cell? ⟨w.heap.size + 1, 2, none⟩ = some (.int .u32 s3) := cell_of_row _ _ _ _ _ (0, 0) HXx.r1
      have HK2 := Lib.hid hK
      have HX := Lib.hid hx
      clear hK h1 h2 hx
      go_simp
      first
        | (go_at_call 27; refine (FP.out _).mono ?_; rintro e x1 ⟨rfl, hb⟩; exact HK2.out _ (HX.out.quiet 0 (by rfl) hb))
        | (go_at_call 26; refine (FL.out _).mono ?_; rintro e x1 ⟨rfl, hb⟩; exact HK2.out _ (HX.out.quiet 0 (by rfl) hb))
        | exact HK2.out _ (HX.out.quiet 0 (by rfl) (Below.refl _ _))
    simp only [Act.put, List.setIfInBounds_toArray, List.set_cons_succ, List.set_cons_zero]
    refine Ghost.walk_yes (fun b => .pointer (some ⟨b, 0, none⟩)) (fun γ => by rfl) ?_ ?_
    · intro γ L wx h1 h2 hx K hK
      have HK2 := Lib.hid hK
      clear hK h2
      have hL : L (⟨7, 8, 59, #[.bool false, .bool false, .bool false, .bool false, .bool false, .int .i64 0], #[.bool xu, .bool xd, .bool xc, .bool xa, .bool xb, .int .i64 (xn : Int)]⟩ : Decl).al = false := h1
      clear h1
      go_simp
      exact HK2.out wx.heap.size _ (hx.alloc (⟨7, 8, 59, #[.bool false, .bool false, .bool false, .bool false, .bool false, .int .i64 0], #[.bool xu, .bool xd, .bool xc, .bool xa, .bool xb, .int .i64 (xn : Int)]⟩ : Decl) (decl_mem _) hL (by rfl) (decl_al _))
    simp only [Act.put, List.setIfInBounds_toArray, List.set_cons_succ, List.set_cons_zero]
    refine Ghost.walk_yes (fun _ => undef) (fun γ => by rfl) ?_ ?_
    · intro γ L wx h1 h2 hx K hK
      have hA : L (⟨7, 8, 59, #[.bool false, .bool false, .bool false, .bool false, .bool false, .int .i64 0], #[.bool xu, .bool xd, .bool xc, .bool xa, .bool xb, .int .i64 (xn : Int)]⟩ : Decl).al = true := h2 7 (by kernel_rfl)
      exact hx.wp_store (⟨7, 8, 59, #[.bool false, .bool false, .bool false, .bool false, .bool false, .int .i64 0], #[.bool xu, .bool xd, .bool xc, .bool xa, .bool xb, .int .i64 (xn : Int)]⟩ : Decl) (decl_mem _) h1 hA _ _ rfl rfl rfl (by kernel_rfl) rfl (by kernel_rfl) (hK 0 _ (hx.store (⟨7, 8, 59, #[.bool false, .bool false, .bool false, .bool false, .bool false, .int .i64 0], #[.bool xu, .bool xd, .bool xc, .bool xa, .bool xb, .int .i64 (xn : Int)]⟩ : Decl) (decl_mem _) hA (by rfl) (decl_st _) (decl_al _) 0))
    simp only [Act.put]
    refine Ghost.walk_nil (fun γ L w2 hall hD => ?_)
    obtain ⟨hd2, hr2, hb2⟩ := hD.done1 hall (by show 7 < 9; decide) (by show 8 < 9; decide)
    clear hall hD
    simp only [Nat.zero_add, Nat.reduceAdd] at hd2 hr2 ⊢
    generalize γ 7 = gn at *
    have HB2 := Lib.hid (HB1.out.make hr2 hb2)
    have l2_0 : w.heap.size < gn := by omega
    have l2_1 : w.heap.size + 1 < gn := by omega
    have l2_2 : w.heap.size + 2 < gn := by omega
    have lw2 : w.heap.size ≤ gn := by have := HB1.out.below.size; omega
    clear hd2 hr2 hb2 HB1 q0 q1 q2
    have c0_0 : w2.cell? ⟨gn, 0, none⟩ = some (.bool xu) := cell_of_row _ _ _ _ _ (0, 0) HB2.out.r0
    have c0_1 : w2.cell? ⟨gn, 1, none⟩ = some (.bool xd) := cell_of_row _ _ _ _ _ (0, 0) HB2.out.r0
    have c0_2 : w2.cell? ⟨gn, 2, none⟩ = some (.bool xc) := cell_of_row _ _ _ _ _ (0, 0) HB2.out.r0
    have c0_3 : w2.cell? ⟨gn, 3, none⟩ = some (.bool xa) := cell_of_row _ _ _ _ _ (0, 0) HB2.out.r0
    have c0_4 : w2.cell? ⟨gn, 4, none⟩ = some (.bool xb) := cell_of_row _ _ _ _ _ (0, 0) HB2.out.r0
    have c0_5 : w2.cell? ⟨gn, 5, none⟩ = some (.int .i64 (xn : Int)) := cell_of_row _ _ _ _ _ (0, 0) HB2.out.r0
    have c1_0 : w2.cell? ⟨w.heap.size, 0, none⟩ = some (.int .i64 ((0 : Nat) : Int)) := cell_of_row _ _ _ _ _ (0, 0) HB2.out.r1
    have c1_1 : w2.cell? ⟨w.heap.size, 1, none⟩ = some (.int .i64 (o : Int)) := cell_of_row _ _ _ _ _ (0, 0) HB2.out.r1
    cases xu
    · cases xd
      · cases xc
        · have HZ := Lib.hid True.intro
          clear HZ
          go_wp2_with fail
          refine (FMN.out _).mono ?_
          rintro e w3 ⟨rfl, hb3⟩
          have HB3 := Lib.hid (HB2.out.next hb3)
          clear c0_0 c0_1 c0_2 c0_3 c0_4 c0_5 c1_0 c1_1 hb3 HB2
          go_wp2_with (with_reducible show wpList _ _ _ (Oper.mk _ (.store 38 _ _) _ _ _ _ :: _) _ _; refine Hid.out ?_)
          refine Lib.hid ?_
          refine wpList_put rfl 38 _ _ rfl (w.heap.size + 2) #[.int .i64 (xn : Int), .int .i64 (xn : Int), .int .i64 0] _ 38 rfl rfl HB3.out.r3 (by kernel_rfl) rfl (by kernel_rfl) ?_
          intro w4 hr4 hg4
          have HB4 : Hid (Bx w [(gn, .cells #[.bool false, .bool false, .bool false, .bool xa, .bool xb, .int .i64 (xn : Int)] 59 (0, 0)), (w.heap.size, .cells #[.int .i64 ((0 : Nat) : Int), .int .i64 (o : Int)] 23 (0, 0)), (w.heap.size + 1, .cells #[.int .u32 s1, .int .u32 s2, .int .u32 s3] 30 (0, 0)), (w.heap.size + 2, .cells #[.int .i64 (xn : Int), .int .i64 (xn : Int), .int .i64 0] 38 (0, 0))] w4) := Lib.hid (HB3.out.put (by omega) hg4.out hr4.out (by simp only [List.mem_cons, List.not_mem_nil, or_false]; rintro p (rfl | rfl | rfl | rfl) <;> simp <;> omega))
          clear hr4 hg4 HB3
          go_wp2_with fail
          exact bodyPost_ret (results_cell_row Tryd.results17 _ _ _ _ _ (0, 0) _ rfl (HB4.out.r3) Tryd.underlying38 rfl (by kernel_rfl)) rfl (⟨rfl, HB4.out.below⟩)
        · have HZ := Lib.hid True.intro
          clear HZ
          go_wp2_with fail
          refine (FON.out _).mono ?_
          rintro e w3 ⟨rfl, hb3⟩
          have HB3 := Lib.hid (HB2.out.next hb3)
          clear c0_0 c0_1 c0_2 c0_3 c0_4 c0_5 c1_0 c1_1 hb3 HB2
          go_wp2_with (with_reducible show wpList _ _ _ (Oper.mk _ (.store 38 _ _) _ _ _ _ :: _) _ _; refine Hid.out ?_)
          refine Lib.hid ?_
          refine wpList_put rfl 38 _ _ rfl (w.heap.size + 2) #[.int .i64 3, .int .i64 (xn : Int), .int .i64 (xn : Int)] _ 38 rfl rfl HB3.out.r3 (by kernel_rfl) rfl (by kernel_rfl) ?_
          intro w4 hr4 hg4
          have HB4 : Hid (Bx w [(gn, .cells #[.bool false, .bool false, .bool true, .bool xa, .bool xb, .int .i64 (xn : Int)] 59 (0, 0)), (w.heap.size, .cells #[.int .i64 ((0 : Nat) : Int), .int .i64 (o : Int)] 23 (0, 0)), (w.heap.size + 1, .cells #[.int .u32 s1, .int .u32 s2, .int .u32 s3] 30 (0, 0)), (w.heap.size + 2, .cells #[.int .i64 3, .int .i64 (xn : Int), .int .i64 (xn : Int)] 38 (0, 0))] w4) := Lib.hid (HB3.out.put (by omega) hg4.out hr4.out (by simp only [List.mem_cons, List.not_mem_nil, or_false]; rintro p (rfl | rfl | rfl | rfl) <;> simp <;> omega))
          clear hr4 hg4 HB3
          go_wp2_with fail
          exact bodyPost_ret (results_cell_row Tryd.results17 _ _ _ _ _ (0, 0) _ rfl (HB4.out.r3) Tryd.underlying38 rfl (by kernel_rfl)) rfl (⟨rfl, HB4.out.below⟩)
      · have HZ := Lib.hid True.intro
        clear HZ
        go_wp2_with fail
        refine (FO2.out _).mono ?_
        rintro e w3 ⟨rfl, hb3⟩
        have HB3 := Lib.hid (HB2.out.next hb3)
        clear c0_0 c0_1 c0_2 c0_3 c0_4 c0_5 c1_0 c1_1 hb3 HB2
        go_wp2_with (with_reducible show wpList _ _ _ (Oper.mk _ (.store 38 _ _) _ _ _ _ :: _) _ _; refine Hid.out ?_)
        refine Lib.hid ?_
        refine wpList_put rfl 38 _ _ rfl (w.heap.size + 2) #[.int .i64 3, .int .i64 2, .int .i64 2] _ 38 rfl rfl HB3.out.r3 (by kernel_rfl) rfl (by kernel_rfl) ?_
        intro w4 hr4 hg4
        have HB4 : Hid (Bx w [(gn, .cells #[.bool false, .bool true, .bool xc, .bool xa, .bool xb, .int .i64 (xn : Int)] 59 (0, 0)), (w.heap.size, .cells #[.int .i64 ((0 : Nat) : Int), .int .i64 (o : Int)] 23 (0, 0)), (w.heap.size + 1, .cells #[.int .u32 s1, .int .u32 s2, .int .u32 s3] 30 (0, 0)), (w.heap.size + 2, .cells #[.int .i64 3, .int .i64 2, .int .i64 2] 38 (0, 0))] w4) := Lib.hid (HB3.out.put (by omega) hg4.out hr4.out (by simp only [List.mem_cons, List.not_mem_nil, or_false]; rintro p (rfl | rfl | rfl | rfl) <;> simp <;> omega))
        clear hr4 hg4 HB3
        go_wp2_with fail
        exact bodyPost_ret (results_cell_row Tryd.results17 _ _ _ _ _ (0, 0) _ rfl (HB4.out.r3) Tryd.underlying38 rfl (by kernel_rfl)) rfl (⟨rfl, HB4.out.below⟩)
    · have HZ := Lib.hid True.intro
      clear HZ
      go_wp2_with fail
      refine (FO1.out _).mono ?_
      rintro e w3 ⟨rfl, hb3⟩
      have HB3 := Lib.hid (HB2.out.next hb3)
      clear c0_0 c0_1 c0_2 c0_3 c0_4 c0_5 c1_0 c1_1 hb3 HB2
      go_wp2_with (with_reducible show wpList _ _ _ (Oper.mk _ (.store 38 _ _) _ _ _ _ :: _) _ _; refine Hid.out ?_)
      refine Lib.hid ?_
      refine wpList_put rfl 38 _ _ rfl (w.heap.size + 2) #[.int .i64 3, .int .i64 1, .int .i64 1] _ 38 rfl rfl HB3.out.r3 (by kernel_rfl) rfl (by kernel_rfl) ?_
      intro w4 hr4 hg4
      have HB4 : Hid (Bx w [(gn, .cells #[.bool true, .bool xd, .bool xc, .bool xa, .bool xb, .int .i64 (xn : Int)] 59 (0, 0)), (w.heap.size, .cells #[.int .i64 ((0 : Nat) : Int), .int .i64 (o : Int)] 23 (0, 0)), (w.heap.size + 1, .cells #[.int .u32 s1, .int .u32 s2, .int .u32 s3] 30 (0, 0)), (w.heap.size + 2, .cells #[.int .i64 3, .int .i64 1, .int .i64 1] 38 (0, 0))] w4) := Lib.hid (HB3.out.put (by omega) hg4.out hr4.out (by simp only [List.mem_cons, List.not_mem_nil, or_false]; rintro p (rfl | rfl | rfl | rfl) <;> simp <;> omega))
      clear hr4 hg4 HB3
      go_wp2_with fail
      exact bodyPost_ret (results_cell_row Tryd.results17 _ _ _ _ _ (0, 0) _ rfl (HB4.out.r3) Tryd.underlying38 rfl (by kernel_rfl)) rfl (⟨rfl, HB4.out.below⟩)
  · rw [← Cv.swUp_R]
    simp only
    have FW := Lib.hid (fun wx => refSweeping_any 1 2 xc xu xd xa xb wx (by decide))
    have FT := Lib.hid (fun wx => refTurning_any 2 xd xb wx (by decide))
    generalize swpR 1 2 xc xu xd xa xb = r at *
    generalize turR 2 xd xb = tr at *
    obtain ⟨⟨r1, r2, r3⟩, ok⟩ := r
    obtain ⟨z1, z2, z3⟩ := tr
    simp only [Cv.Ch.agg] at FW FT
    clear hnl
    have HB0 := Lib.hid (bxs3 w (.cells #[.int .i64 ((1 : Nat) : Int), .int .i64 (o : Int)] 23) (.cells #[.int .u32 s1, .int .u32 s2, .int .u32 s3] 30) (.cells #[.int .i64 0, .int .i64 0, .int .i64 0] 38))
    go_enter Tryd.func17, Tryd.ntmps17
    go_wp2_with fail
    refine (FI.out _).mono ?_
    rintro e w1 ⟨rfl, hb1⟩
    have HB1 := Lib.hid (HB0.out.next hb1)
    clear hb1 HB0
    go_wp2_with fail
    have q0 : w.heap.size < w1.heap.size := (Array.getElem?_eq_some_iff.1 HB1.out.r0).1
    have q1 : w.heap.size + 1 < w1.heap.size := (Array.getElem?_eq_some_iff.1 HB1.out.r1).1
    have q2 : w.heap.size + 2 < w1.heap.size := (Array.getElem?_eq_some_iff.1 HB1.out.r2).1
    refine Ghost.ghost (fun γ L wx => Decls (w1).heap.size (w1) [(⟨7, 8, 59, #[.bool false, .bool false, .bool false, .bool false, .bool false, .int .i64 0], #[.bool xu, .bool xd, .bool xc, .bool xa, .bool xb, .int .i64 (xn : Int)]⟩ : Decl)] γ L wx) (by kernel_rfl) (by kernel_rfl) (fun γ => Decls.start _ γ (Below.refl _ _).drew (Nat.le_refl _)) ?_
    apply Ghost.walk_const (fun γ => by rfl)
    · intro γ L wx h1 h2 hx K hK
      have HXx := HB1.out.next hx.below
      have z0_0 : wx.cell? ⟨w.heap.size, 0, none⟩ = some (.int .i64 ((1 : Nat) : Int)) := cell_of_row _ _ _ _ _ (0, 0) HXx.r0
      have z0_1 : wx.cell? ⟨w.heap.size, 1, none⟩ = some (.int .i64 (o : Int)) := cell_of_row _ _ _ _ _ (0, 0) HXx.r0
      have z1_0 : wx.cell? ⟨w.heap.size + 1, 0, none⟩ = some (.int .u32 s1) := cell_of_row _ _ _ _ _ (0, 0) HXx.r1
      have z1_1 : wx.cell? ⟨w.heap.size + 1, 1, none⟩ = some (.int .u32 s2) := cell_of_row _ _ _ _ _ (0, 0) HXx.r1
      have z1_2 : wx.cell? ⟨w.heap.size + 1, 2, none⟩ = some (.int .u32 s3) := cell_of_row _ _ _ _ _ (0, 0) HXx.r1
      have HK2 := Lib.hid hK
      have HX := Lib.hid hx
      clear hK h1 h2 hx
      go_simp
      first
        | (go_at_call 27; refine (FP.out _).mono ?_; rintro e x1 ⟨rfl, hb⟩; exact HK2.out _ (HX.out.quiet 0 (by rfl) hb))
        | (go_at_call 26; refine (FL.out _).mono ?_; rintro e x1 ⟨rfl, hb⟩; exact HK2.out _ (HX.out.quiet 0 (by rfl) hb))
        | exact HK2.out _ (HX.out.quiet 0 (by rfl) (Below.refl _ _))
    simp only [Act.put, List.setIfInBounds_toArray, List.set_cons_succ, List.set_cons_zero]
    apply Ghost.walk_const (fun γ => by rfl)
    · intro γ L wx h1 h2 hx K hK
      have HXx := HB1.out.next hx.below
      have z0_0 : wx.cell? ⟨w.heap.size, 0, none⟩ = some (.int .i64 ((1 : Nat) : Int)) := cell_of_row _ _ _ _ _ (0, 0) HXx.r0
      have z0_1 : wx.cell? ⟨w.heap.size, 1, none⟩ = some (.int .i64 (o : Int)) := cell_of_row _ _ _ _ _ (0, 0) HXx.r0
      have z1_0 : wx.cell? ⟨w.heap.size + 1, 0, none⟩ = some (.int .u32 s1) := cell_of_row _ _ _ _ _ (0, 0) HXx.r1
      have z1_1 : wx.cell? ⟨w.heap.size + 1, 1, none⟩ = some (.int .u32 s2) := cell_of_row _ _ _ _ _ (0, 0) HXx.r1
      have z1_2 : wx.cell? ⟨w.heap.size + 1, 2, none⟩ = some (.int .u32 s3) := cell_of_row _ _ _ _ _ (0, 0) HXx.r1
      have HK2 := Lib.hid hK
      have HX := Lib.hid hx
      clear hK h1 h2 hx
      go_simp
      first
        | (go_at_call 27; refine (FP.out _).mono ?_; rintro e x1 ⟨rfl, hb⟩; exact HK2.out _ (HX.out.quiet 0 (by rfl) hb))
        | (go_at_call 26; refine (FL.out _).mono ?_; rintro e x1 ⟨rfl, hb⟩; exact HK2.out _ (HX.out.quiet 0 (by rfl) hb))
        | exact HK2.out _ (HX.out.quiet 0 (by rfl) (Below.refl _ _))
    simp only [Act.put, List.setIfInBounds_toArray, List.set_cons_succ, List.set_cons_zero]
    apply Ghost.walk_const (fun γ => by rfl)
    · intro γ L wx h1 h2 hx K hK
      have HXx := HB1.out.next hx.below
      have z0_0 : wx.cell? ⟨w.heap.size, 0, none⟩ = some (.int .i64 ((1 : Nat) : Int)) := cell_of_row _ _ _ _ _ (0, 0) HXx.r0
      have z0_1 : wx.cell? ⟨w.heap.size, 1, none⟩ = some (.int .i64 (o : Int)) := cell_of_row _ _ _ _ _ (0, 0) HXx.r0
      have z1_0 : wx.cell? ⟨w.heap.size + 1, 0, none⟩ = some (.int .u32 s1) := cell_of_row _ _ _ _ _ (0, 0) HXx.r1
      have z1_1 : wx.cell? ⟨w.heap.size + 1, 1, none⟩ = some (.int .u32 s2) := cell_of_row _ _ _ _ _ (0, 0) HXx.r1
      have z1_2 : wx.cell? ⟨w.heap.size + 1, 2, none⟩ = some (.int .u32 s3) := cell_of_row _ _ _ _ _ (0, 0) HXx.r1
      have HK2 := Lib.hid hK
      have HX := Lib.hid hx
      clear hK h1 h2 hx
      go_simp
      first
        | (go_at_call 27; refine (FP.out _).mono ?_; rintro e x1 ⟨rfl, hb⟩; exact HK2.out _ (HX.out.quiet 0 (by rfl) hb))
        | (go_at_call 26; refine (FL.out _).mono ?_; rintro e x1 ⟨rfl, hb⟩; exact HK2.out _ (HX.out.quiet 0 (by rfl) hb))
        | exact HK2.out _ (HX.out.quiet 0 (by rfl) (Below.refl _ _))
    simp only [Act.put, List.setIfInBounds_toArray, List.set_cons_succ, List.set_cons_zero]
    apply Ghost.walk_const (fun γ => by rfl)
    · intro γ L wx h1 h2 hx K hK
      have HXx := HB1.out.next hx.below
      have z0_0 : wx.cell? ⟨w.heap.size, 0, none⟩ = some (.int .i64 ((1 : Nat) : Int)) := cell_of_row _ _ _ _ _ (0, 0) HXx.r0
      have z0_1 : wx.cell? ⟨w.heap.size, 1, none⟩ = some (.int .i64 (o : Int)) := cell_of_row _ _ _ _ _ (0, 0) HXx.r0
      have z1_0 : wx.cell? ⟨w.heap.size + 1, 0, none⟩ = some (.int .u32 s1) := cell_of_row _ _ _ _ _ (0, 0) HXx.r1
      have z1_1 : wx.cell? ⟨w.heap.size + 1, 1, none⟩ = some (.int .u32 s2) := cell_of_row _ _ _ _ _ (0, 0) HXx.r1
      have z1_2 : wx.cell? ⟨w.heap.size + 1, 2, none⟩ = some (.int .u32 s3) := cell_of_row _ _ _ _ _ (0, 0) HXx.r1
      have HK2 := Lib.hid hK
      have HX := Lib.hid hx
      clear hK h1 h2 hx
      go_simp
      first
        | (go_at_call 27; refine (FP.out _).mono ?_; rintro e x1 ⟨rfl, hb⟩; exact HK2.out _ (HX.out.quiet 0 (by rfl) hb))
        | (go_at_call 26; refine (FL.out _).mono ?_; rintro e x1 ⟨rfl, hb⟩; exact HK2.out _ (HX.out.quiet 0 (by rfl) hb))
        | exact HK2.out _ (HX.out.quiet 0 (by rfl) (Below.refl _ _))
    simp only [Act.put, List.setIfInBounds_toArray, List.set_cons_succ, List.set_cons_zero]
    apply Ghost.walk_const (fun γ => by rfl)
    · intro γ L wx h1 h2 hx K hK
      have HXx := HB1.out.next hx.below
      have z0_0 : wx.cell? ⟨w.heap.size, 0, none⟩ = some (.int .i64 ((1 : Nat) : Int)) := cell_of_row _ _ _ _ _ (0, 0) HXx.r0
      have z0_1 : wx.cell? ⟨w.heap.size, 1, none⟩ = some (.int .i64 (o : Int)) := cell_of_row _ _ _ _ _ (0, 0) HXx.r0
      have z1_0 : wx.cell? ⟨w.heap.size + 1, 0, none⟩ = some (.int .u32 s1) := cell_of_row _ _ _ _ _ (0, 0) HXx.r1
      have z1_1 : wx.cell? ⟨w.heap.size + 1, 1, none⟩ = some (.int .u32 s2) := cell_of_row _ _ _ _ _ (0, 0) HXx.r1
      have z1_2 : wx.cell? ⟨w.heap.size + 1, 2, none⟩ = some (.int .u32 s3) := cell_of_row _ _ _ _ _ (0, 0) HXx.r1
      have HK2 := Lib.hid hK
      have HX := Lib.hid hx
      clear hK h1 h2 hx
      go_simp
      first
        | (go_at_call 27; refine (FP.out _).mono ?_; rintro e x1 ⟨rfl, hb⟩; exact HK2.out _ (HX.out.quiet 0 (by rfl) hb))
        | (go_at_call 26; refine (FL.out _).mono ?_; rintro e x1 ⟨rfl, hb⟩; exact HK2.out _ (HX.out.quiet 0 (by rfl) hb))
        | exact HK2.out _ (HX.out.quiet 0 (by rfl) (Below.refl _ _))
    simp only [Act.put, List.setIfInBounds_toArray, List.set_cons_succ, List.set_cons_zero]
    apply Ghost.walk_const (fun γ => by rfl)
    · intro γ L wx h1 h2 hx K hK
      have HXx := HB1.out.next hx.below
      have z0_0 : wx.cell? ⟨w.heap.size, 0, none⟩ = some (.int .i64 ((1 : Nat) : Int)) := cell_of_row _ _ _ _ _ (0, 0) HXx.r0
      have z0_1 : wx.cell? ⟨w.heap.size, 1, none⟩ = some (.int .i64 (o : Int)) := cell_of_row _ _ _ _ _ (0, 0) HXx.r0
      have z1_0 : wx.cell? ⟨w.heap.size + 1, 0, none⟩ = some (.int .u32 s1) := cell_of_row _ _ _ _ _ (0, 0) HXx.r1
      have z1_1 : wx.cell? ⟨w.heap.size + 1, 1, none⟩ = some (.int .u32 s2) := cell_of_row _ _ _ _ _ (0, 0) HXx.r1
      have z1_2 : wx.cell? ⟨w.heap.size + 1, 2, none⟩ = some (.int .u32 s3) := cell_of_row _ _ _ _ _ (0, 0) HXx.r1
      have HK2 := Lib.hid hK
      have HX := Lib.hid hx
      clear hK h1 h2 hx
      go_simp
      first
        | (go_at_call 27; refine (FP.out _).mono ?_; rintro e x1 ⟨rfl, hb⟩; exact HK2.out _ (HX.out.quiet 0 (by rfl) hb))
        | (go_at_call 26; refine (FL.out _).mono ?_; rintro e x1 ⟨rfl, hb⟩; exact HK2.out _ (HX.out.quiet 0 (by rfl) hb))
        | exact HK2.out _ (HX.out.quiet 0 (by rfl) (Below.refl _ _))
    simp only [Act.put, List.setIfInBounds_toArray, List.set_cons_succ, List.set_cons_zero]
    apply Ghost.walk_const (fun γ => by rfl)
    · intro γ L wx h1 h2 hx K hK
      have HXx := HB1.out.next hx.below
      have z0_0 : wx.cell? ⟨w.heap.size, 0, none⟩ = some (.int .i64 ((1 : Nat) : Int)) := cell_of_row _ _ _ _ _ (0, 0) HXx.r0
      have z0_1 : wx.cell? ⟨w.heap.size, 1, none⟩ = some (.int .i64 (o : Int)) := cell_of_row _ _ _ _ _ (0, 0) HXx.r0
      have z1_0 : wx.cell? ⟨w.heap.size + 1, 0, none⟩ = some (.int .u32 s1) := cell_of_row _ _ _ _ _ (0, 0) HXx.r1
      have z1_1 : wx.cell? ⟨w.heap.size + 1, 1, none⟩ = some (.int .u32 s2) := cell_of_row _ _ _ _ _ (0, 0) HXx.r1
      have z1_2 : wx.cell? ⟨w.heap.size + 1, 2, none⟩ = some (.int .u32 s3) := cell_of_row _ _ _ _ _ (0, 0) HXx.r1
      have HK2 := Lib.hid hK
      have HX := Lib.hid hx
      clear hK h1 h2 hx
      go_simp
      first
        | (go_at_call 27; refine (FP.out _).mono ?_; rintro e x1 ⟨rfl, hb⟩; exact HK2.out _ (HX.out.quiet 0 (by rfl) hb))
        | (go_at_call 26; refine (FL.out _).mono ?_; rintro e x1 ⟨rfl, hb⟩; exact HK2.out _ (HX.out.quiet 0 (by rfl) hb))
        | exact HK2.out _ (HX.out.quiet 0 (by rfl) (Below.refl _ _))
    simp only [Act.put, List.setIfInBounds_toArray, List.set_cons_succ, List.set_cons_zero]
    refine Ghost.walk_yes (fun b => .pointer (some ⟨b, 0, none⟩)) (fun γ => by rfl) ?_ ?_
    · intro γ L wx h1 h2 hx K hK
      have HK2 := Lib.hid hK
      clear hK h2
      have hL : L (⟨7, 8, 59, #[.bool false, .bool false, .bool false, .bool false, .bool false, .int .i64 0], #[.bool xu, .bool xd, .bool xc, .bool xa, .bool xb, .int .i64 (xn : Int)]⟩ : Decl).al = false := h1
      clear h1
      go_simp
      exact HK2.out wx.heap.size _ (hx.alloc (⟨7, 8, 59, #[.bool false, .bool false, .bool false, .bool false, .bool false, .int .i64 0], #[.bool xu, .bool xd, .bool xc, .bool xa, .bool xb, .int .i64 (xn : Int)]⟩ : Decl) (decl_mem _) hL (by rfl) (decl_al _))
    simp only [Act.put, List.setIfInBounds_toArray, List.set_cons_succ, List.set_cons_zero]
    refine Ghost.walk_yes (fun _ => undef) (fun γ => by rfl) ?_ ?_
    · intro γ L wx h1 h2 hx K hK
      have hA : L (⟨7, 8, 59, #[.bool false, .bool false, .bool false, .bool false, .bool false, .int .i64 0], #[.bool xu, .bool xd, .bool xc, .bool xa, .bool xb, .int .i64 (xn : Int)]⟩ : Decl).al = true := h2 7 (by kernel_rfl)
      exact hx.wp_store (⟨7, 8, 59, #[.bool false, .bool false, .bool false, .bool false, .bool false, .int .i64 0], #[.bool xu, .bool xd, .bool xc, .bool xa, .bool xb, .int .i64 (xn : Int)]⟩ : Decl) (decl_mem _) h1 hA _ _ rfl rfl rfl (by kernel_rfl) rfl (by kernel_rfl) (hK 0 _ (hx.store (⟨7, 8, 59, #[.bool false, .bool false, .bool false, .bool false, .bool false, .int .i64 0], #[.bool xu, .bool xd, .bool xc, .bool xa, .bool xb, .int .i64 (xn : Int)]⟩ : Decl) (decl_mem _) hA (by rfl) (decl_st _) (decl_al _) 0))
    simp only [Act.put]
    refine Ghost.walk_nil (fun γ L w2 hall hD => ?_)
    obtain ⟨hd2, hr2, hb2⟩ := hD.done1 hall (by show 7 < 9; decide) (by show 8 < 9; decide)
    clear hall hD
    simp only [Nat.zero_add, Nat.reduceAdd] at hd2 hr2 ⊢
    generalize γ 7 = gn at *
    have HB2 := Lib.hid (HB1.out.make hr2 hb2)
    have l2_0 : w.heap.size < gn := by omega
    have l2_1 : w.heap.size + 1 < gn := by omega
    have l2_2 : w.heap.size + 2 < gn := by omega
    have lw2 : w.heap.size ≤ gn := by have := HB1.out.below.size; omega
    clear hd2 hr2 hb2 HB1 q0 q1 q2
    have c0_0 : w2.cell? ⟨gn, 0, none⟩ = some (.bool xu) := cell_of_row _ _ _ _ _ (0, 0) HB2.out.r0
    have c0_1 : w2.cell? ⟨gn, 1, none⟩ = some (.bool xd) := cell_of_row _ _ _ _ _ (0, 0) HB2.out.r0
    have c0_2 : w2.cell? ⟨gn, 2, none⟩ = some (.bool xc) := cell_of_row _ _ _ _ _ (0, 0) HB2.out.r0
    have c0_3 : w2.cell? ⟨gn, 3, none⟩ = some (.bool xa) := cell_of_row _ _ _ _ _ (0, 0) HB2.out.r0
    have c0_4 : w2.cell? ⟨gn, 4, none⟩ = some (.bool xb) := cell_of_row _ _ _ _ _ (0, 0) HB2.out.r0
    have c0_5 : w2.cell? ⟨gn, 5, none⟩ = some (.int .i64 (xn : Int)) := cell_of_row _ _ _ _ _ (0, 0) HB2.out.r0
    have c1_0 : w2.cell? ⟨w.heap.size, 0, none⟩ = some (.int .i64 ((1 : Nat) : Int)) := cell_of_row _ _ _ _ _ (0, 0) HB2.out.r1
    have c1_1 : w2.cell? ⟨w.heap.size, 1, none⟩ = some (.int .i64 (o : Int)) := cell_of_row _ _ _ _ _ (0, 0) HB2.out.r1
    go_wp2_with fail
    refine (FW.out _).mono ?_
    rintro e w3 ⟨rfl, hb3⟩
    have HB3 := Lib.hid (HB2.out.next hb3)
    clear c0_0 c0_1 c0_2 c0_3 c0_4 c0_5 c1_0 c1_1 hb3 HB2
    go_wp2_with (with_reducible show wpList _ _ _ (Oper.mk _ (.store 38 _ _) _ _ _ _ :: _) _ _; refine Hid.out ?_)
    refine Lib.hid ?_
    have l4_0 : gn < w3.heap.size := (Array.getElem?_eq_some_iff.1 HB3.out.r0).1
    have l4_1 : w.heap.size < w3.heap.size := (Array.getElem?_eq_some_iff.1 HB3.out.r1).1
    have l4_2 : w.heap.size + 1 < w3.heap.size := (Array.getElem?_eq_some_iff.1 HB3.out.r2).1
    have l4_3 : w.heap.size + 2 < w3.heap.size := (Array.getElem?_eq_some_iff.1 HB3.out.r3).1
    have lw4 : w.heap.size ≤ w3.heap.size := HB3.out.below.size
    refine wpList_put rfl 38 _ _ rfl w3.heap.size #[.int .i64 (r1 : Int), .int .i64 (r2 : Int), .int .i64 (r3 : Int)] _ 38 rfl rfl (heap_alloc_new w3 _) (by kernel_rfl) rfl (by kernel_rfl) ?_
    intro w4 hr4 hg4
    have HB4 : Hid (Bx w [(w3.heap.size, .cells #[.int .i64 (r1 : Int), .int .i64 (r2 : Int), .int .i64 (r3 : Int)] 38 (0, 0)), (gn, .cells #[.bool xu, .bool xd, .bool xc, .bool xa, .bool xb, .int .i64 (xn : Int)] 59 (0, 0)), (w.heap.size, .cells #[.int .i64 ((1 : Nat) : Int), .int .i64 (o : Int)] 23 (0, 0)), (w.heap.size + 1, .cells #[.int .u32 s1, .int .u32 s2, .int .u32 s3] 30 (0, 0)), (w.heap.size + 2, .cells #[.int .i64 0, .int .i64 0, .int .i64 0] 38 (0, 0))] w4) := Lib.hid ((HB3.out.make (heap_alloc_new w3 (.cells #[.int .i64 0, .int .i64 0, .int .i64 0] 38)) ((Below.refl w3.heap.size w3).alloc (Nat.le_refl _) _)).put HB3.out.below.size hg4.out hr4.out (by simp only [List.mem_cons, List.not_mem_nil, or_false]; rintro p (rfl | rfl | rfl | rfl | rfl) <;> simp <;> omega))
    clear hr4 hg4 HB3
    generalize w3.heap.size = gc at *
    have c0_0 : w4.cell? ⟨gc, 0, none⟩ = some (.int .i64 (r1 : Int)) := cell_of_row _ _ _ _ _ (0, 0) HB4.out.r0
    have c0_1 : w4.cell? ⟨gc, 1, none⟩ = some (.int .i64 (r2 : Int)) := cell_of_row _ _ _ _ _ (0, 0) HB4.out.r0
    have c0_2 : w4.cell? ⟨gc, 2, none⟩ = some (.int .i64 (r3 : Int)) := cell_of_row _ _ _ _ _ (0, 0) HB4.out.r0
    have c1_0 : w4.cell? ⟨gn, 0, none⟩ = some (.bool xu) := cell_of_row _ _ _ _ _ (0, 0) HB4.out.r1
    have c1_1 : w4.cell? ⟨gn, 1, none⟩ = some (.bool xd) := cell_of_row _ _ _ _ _ (0, 0) HB4.out.r1
    have c1_2 : w4.cell? ⟨gn, 2, none⟩ = some (.bool xc) := cell_of_row _ _ _ _ _ (0, 0) HB4.out.r1
    have c1_3 : w4.cell? ⟨gn, 3, none⟩ = some (.bool xa) := cell_of_row _ _ _ _ _ (0, 0) HB4.out.r1
    have c1_4 : w4.cell? ⟨gn, 4, none⟩ = some (.bool xb) := cell_of_row _ _ _ _ _ (0, 0) HB4.out.r1
    have c1_5 : w4.cell? ⟨gn, 5, none⟩ = some (.int .i64 (xn : Int)) := cell_of_row _ _ _ _ _ (0, 0) HB4.out.r1
    cases ok
    · have HZ := Lib.hid True.intro
      clear HZ
      go_wp2_with fail
      refine (FT.out _).mono ?_
      rintro e w5 ⟨rfl, hb5⟩
      have HB5 := Lib.hid (HB4.out.next hb5)
      clear c0_0 c0_1 c0_2 c1_0 c1_1 c1_2 c1_3 c1_4 c1_5 hb5 HB4
      go_wp2_with (with_reducible show wpList _ _ _ (Oper.mk _ (.store 38 _ _) _ _ _ _ :: _) _ _; refine Hid.out ?_)
      refine Lib.hid ?_
      refine wpList_put rfl 38 _ _ rfl (w.heap.size + 2) #[.int .i64 (z1 : Int), .int .i64 (z2 : Int), .int .i64 (z3 : Int)] _ 38 rfl rfl HB5.out.r4 (by kernel_rfl) rfl (by kernel_rfl) ?_
      intro w6 hr6 hg6
      have HB6 : Hid (Bx w [(gc, .cells #[.int .i64 (r1 : Int), .int .i64 (r2 : Int), .int .i64 (r3 : Int)] 38 (0, 0)), (gn, .cells #[.bool xu, .bool xd, .bool xc, .bool xa, .bool xb, .int .i64 (xn : Int)] 59 (0, 0)), (w.heap.size, .cells #[.int .i64 ((1 : Nat) : Int), .int .i64 (o : Int)] 23 (0, 0)), (w.heap.size + 1, .cells #[.int .u32 s1, .int .u32 s2, .int .u32 s3] 30 (0, 0)), (w.heap.size + 2, .cells #[.int .i64 (z1 : Int), .int .i64 (z2 : Int), .int .i64 (z3 : Int)] 38 (0, 0))] w6) := Lib.hid (HB5.out.put (by omega) hg6.out hr6.out (by simp only [List.mem_cons, List.not_mem_nil, or_false]; rintro p (rfl | rfl | rfl | rfl | rfl) <;> simp <;> omega))
      clear hr6 hg6 HB5
      go_wp2_with fail
      exact bodyPost_ret (results_cell_row Tryd.results17 _ _ _ _ _ (0, 0) _ rfl (HB6.out.r4) Tryd.underlying38 rfl (by kernel_rfl)) rfl (⟨rfl, HB6.out.below⟩)
    · have HZ := Lib.hid True.intro
      clear HZ
      go_wp2_with (with_reducible show wpList _ _ _ (Oper.mk _ (.store 38 _ _) _ _ _ _ :: _) _ _; refine Hid.out ?_)
      refine Lib.hid ?_
      refine wpList_put rfl 38 _ _ rfl (w.heap.size + 2) #[.int .i64 (r1 : Int), .int .i64 (r2 : Int), .int .i64 (r3 : Int)] _ 38 rfl rfl HB4.out.r4 (by kernel_rfl) rfl (by kernel_rfl) ?_
      intro w5 hr5 hg5
      have HB5 : Hid (Bx w [(gc, .cells #[.int .i64 (r1 : Int), .int .i64 (r2 : Int), .int .i64 (r3 : Int)] 38 (0, 0)), (gn, .cells #[.bool xu, .bool xd, .bool xc, .bool xa, .bool xb, .int .i64 (xn : Int)] 59 (0, 0)), (w.heap.size, .cells #[.int .i64 ((1 : Nat) : Int), .int .i64 (o : Int)] 23 (0, 0)), (w.heap.size + 1, .cells #[.int .u32 s1, .int .u32 s2, .int .u32 s3] 30 (0, 0)), (w.heap.size + 2, .cells #[.int .i64 (r1 : Int), .int .i64 (r2 : Int), .int .i64 (r3 : Int)] 38 (0, 0))] w5) := Lib.hid (HB4.out.put (by omega) hg5.out hr5.out (by simp only [List.mem_cons, List.not_mem_nil, or_false]; rintro p (rfl | rfl | rfl | rfl | rfl) <;> simp <;> omega))
      clear c0_0 c0_1 c0_2 c1_0 c1_1 c1_2 c1_3 c1_4 c1_5 hr5 hg5 HB4
      go_wp2_with fail
      exact bodyPost_ret (results_cell_row Tryd.results17 _ _ _ _ _ (0, 0) _ rfl (HB5.out.r4) Tryd.underlying38 rfl (by kernel_rfl)) rfl (⟨rfl, HB5.out.below⟩)
  · rw [← Cv.swDn_R]
    simp only
    have FW := Lib.hid (fun wx => refSweeping_any 2 1 xc xd xu xb xa wx (by decide))
    have FT := Lib.hid (fun wx => refTurning_any 1 xu xa wx (by decide))
    generalize swpR 2 1 xc xd xu xb xa = r at *
    generalize turR 1 xu xa = tr at *
    obtain ⟨⟨r1, r2, r3⟩, ok⟩ := r
    obtain ⟨z1, z2, z3⟩ := tr
    simp only [Cv.Ch.agg] at FW FT
    clear hnl
    have HB0 := Lib.hid (bxs3 w (.cells #[.int .i64 ((2 : Nat) : Int), .int .i64 (o : Int)] 23) (.cells #[.int .u32 s1, .int .u32 s2, .int .u32 s3] 30) (.cells #[.int .i64 0, .int .i64 0, .int .i64 0] 38))
    go_enter Tryd.func17, Tryd.ntmps17
    go_wp2_with fail
    refine (FI.out _).mono ?_
    rintro e w1 ⟨rfl, hb1⟩
    have HB1 := Lib.hid (HB0.out.next hb1)
    clear hb1 HB0
    go_wp2_with fail
    have q0 : w.heap.size < w1.heap.size := (Array.getElem?_eq_some_iff.1 HB1.out.r0).1
    have q1 : w.heap.size + 1 < w1.heap.size := (Array.getElem?_eq_some_iff.1 HB1.out.r1).1
    have q2 : w.heap.size + 2 < w1.heap.size := (Array.getElem?_eq_some_iff.1 HB1.out.r2).1
    refine Ghost.ghost (fun γ L wx => Decls (w1).heap.size (w1) [(⟨7, 8, 59, #[.bool false, .bool false, .bool false, .bool false, .bool false, .int .i64 0], #[.bool xu, .bool xd, .bool xc, .bool xa, .bool xb, .int .i64 (xn : Int)]⟩ : Decl)] γ L wx) (by kernel_rfl) (by kernel_rfl) (fun γ => Decls.start _ γ (Below.refl _ _).drew (Nat.le_refl _)) ?_
    apply Ghost.walk_const (fun γ => by rfl)
    · intro γ L wx h1 h2 hx K hK
      have HXx := HB1.out.next hx.below
      have z0_0 : wx.cell? ⟨w.heap.size, 0, none⟩ = some (.int .i64 ((2 : Nat) : Int)) := cell_of_row _ _ _ _ _ (0, 0) HXx.r0
      have z0_1 : wx.cell? ⟨w.heap.size, 1, none⟩ = some (.int .i64 (o : Int)) := cell_of_row _ _ _ _ _ (0, 0) HXx.r0
      have z1_0 : wx.cell? ⟨w.heap.size + 1, 0, none⟩ = some (.int .u32 s1) := cell_of_row _ _ _ _ _ (0, 0) HXx.r1
      have z1_1 : wx.cell? ⟨w.heap.size + 1, 1, none⟩ = some (.int .u32 s2) := cell_of_row _ _ _ _ _ (0, 0) HXx.r1
      have z1_2 : wx.cell? ⟨w.heap.size + 1, 2, none⟩ = some (.int .u32 s3) := cell_of_row _ _ _ _ _ (0, 0) HXx.r1
      have HK2 := Lib.hid hK
      have HX := Lib.hid hx
      clear hK h1 h2 hx
      go_simp
      first
        | (go_at_call 27; refine (FP.out _).mono ?_; rintro e x1 ⟨rfl, hb⟩; exact HK2.out _ (HX.out.quiet 0 (by rfl) hb))
        | (go_at_call 26; refine (FL.out _).mono ?_; rintro e x1 ⟨rfl, hb⟩; exact HK2.out _ (HX.out.quiet 0 (by rfl) hb))
        | exact HK2.out _ (HX.out.quiet 0 (by rfl) (Below.refl _ _))
    simp only [Act.put, List.setIfInBounds_toArray, List.set_cons_succ, List.set_cons_zero]
    apply Ghost.walk_const (fun γ => by rfl)
    · intro γ L wx h1 h2 hx K hK
      have HXx := HB1.out.next hx.below
      have z0_0 : wx.cell? ⟨w.heap.size, 0, none⟩ = some (.int .i64 ((2 : Nat) : Int)) := cell_of_row _ _ _ _ _ (0, 0) HXx.r0
      have z0_1 : wx.cell? ⟨w.heap.size, 1, none⟩ = some (.int .i64 (o : Int)) := cell_of_row _ _ _ _ _ (0, 0) HXx.r0
      have z1_0 : wx.cell? ⟨w.heap.size + 1, 0, none⟩ = some (.int .u32 s1) := cell_of_row _ _ _ _ _ (0, 0) HXx.r1
      have z1_1 : wx.cell? ⟨w.heap.size + 1, 1, none⟩ = some (.int .u32 s2) := cell_of_row _ _ _ _ _ (0, 0) HXx.r1
      have z1_2 : wx.cell? ⟨w.heap.size + 1, 2, none⟩ = some (.int .u32 s3) := cell_of_row _ _ _ _ _ (0, 0) HXx.r1
      have HK2 := Lib.hid hK
      have HX := Lib.hid hx
      clear hK h1 h2 hx
      go_simp
      first
        | (go_at_call 27; refine (FP.out _).mono ?_; rintro e x1 ⟨rfl, hb⟩; exact HK2.out _ (HX.out.quiet 0 (by rfl) hb))
        | (go_at_call 26; refine (FL.out _).mono ?_; rintro e x1 ⟨rfl, hb⟩; exact HK2.out _ (HX.out.quiet 0 (by rfl) hb))
        | exact HK2.out _ (HX.out.quiet 0 (by rfl) (Below.refl _ _))
    simp only [Act.put, List.setIfInBounds_toArray, List.set_cons_succ, List.set_cons_zero]
    apply Ghost.walk_const (fun γ => by rfl)
    · intro γ L wx h1 h2 hx K hK
      have HXx := HB1.out.next hx.below
      have z0_0 : wx.cell? ⟨w.heap.size, 0, none⟩ = some (.int .i64 ((2 : Nat) : Int)) := cell_of_row _ _ _ _ _ (0, 0) HXx.r0
      have z0_1 : wx.cell? ⟨w.heap.size, 1, none⟩ = some (.int .i64 (o : Int)) := cell_of_row _ _ _ _ _ (0, 0) HXx.r0
      have z1_0 : wx.cell? ⟨w.heap.size + 1, 0, none⟩ = some (.int .u32 s1) := cell_of_row _ _ _ _ _ (0, 0) HXx.r1
      have z1_1 : wx.cell? ⟨w.heap.size + 1, 1, none⟩ = some (.int .u32 s2) := cell_of_row _ _ _ _ _ (0, 0) HXx.r1
      have z1_2 : wx.cell? ⟨w.heap.size + 1, 2, none⟩ = some (.int .u32 s3) := cell_of_row _ _ _ _ _ (0, 0) HXx.r1
      have HK2 := Lib.hid hK
      have HX := Lib.hid hx
      clear hK h1 h2 hx
      go_simp
      first
        | (go_at_call 27; refine (FP.out _).mono ?_; rintro e x1 ⟨rfl, hb⟩; exact HK2.out _ (HX.out.quiet 0 (by rfl) hb))
        | (go_at_call 26; refine (FL.out _).mono ?_; rintro e x1 ⟨rfl, hb⟩; exact HK2.out _ (HX.out.quiet 0 (by rfl) hb))
        | exact HK2.out _ (HX.out.quiet 0 (by rfl) (Below.refl _ _))
    simp only [Act.put, List.setIfInBounds_toArray, List.set_cons_succ, List.set_cons_zero]
    apply Ghost.walk_const (fun γ => by rfl)
    · intro γ L wx h1 h2 hx K hK
      have HXx := HB1.out.next hx.below
      have z0_0 : wx.cell? ⟨w.heap.size, 0, none⟩ = some (.int .i64 ((2 : Nat) : Int)) := cell_of_row _ _ _ _ _ (0, 0) HXx.r0
      have z0_1 : wx.cell? ⟨w.heap.size, 1, none⟩ = some (.int .i64 (o : Int)) := cell_of_row _ _ _ _ _ (0, 0) HXx.r0
      have z1_0 : wx.cell? ⟨w.heap.size + 1, 0, none⟩ = some (.int .u32 s1) := cell_of_row _ _ _ _ _ (0, 0) HXx.r1
      have z1_1 : wx.cell? ⟨w.heap.size + 1, 1, none⟩ = some (.int .u32 s2) := cell_of_row _ _ _ _ _ (0, 0) HXx.r1
      have z1_2 : wx.cell? ⟨w.heap.size + 1, 2, none⟩ = some (.int .u32 s3) := cell_of_row _ _ _ _ _ (0, 0) HXx.r1
      have HK2 := Lib.hid hK
      have HX := Lib.hid hx
      clear hK h1 h2 hx
      go_simp
      first
        | (go_at_call 27; refine (FP.out _).mono ?_; rintro e x1 ⟨rfl, hb⟩; exact HK2.out _ (HX.out.quiet 0 (by rfl) hb))
        | (go_at_call 26; refine (FL.out _).mono ?_; rintro e x1 ⟨rfl, hb⟩; exact HK2.out _ (HX.out.quiet 0 (by rfl) hb))
        | exact HK2.out _ (HX.out.quiet 0 (by rfl) (Below.refl _ _))
    simp only [Act.put, List.setIfInBounds_toArray, List.set_cons_succ, List.set_cons_zero]
    apply Ghost.walk_const (fun γ => by rfl)
    · intro γ L wx h1 h2 hx K hK
      have HXx := HB1.out.next hx.below
      have z0_0 : wx.cell? ⟨w.heap.size, 0, none⟩ = some (.int .i64 ((2 : Nat) : Int)) := cell_of_row _ _ _ _ _ (0, 0) HXx.r0
      have z0_1 : wx.cell? ⟨w.heap.size, 1, none⟩ = some (.int .i64 (o : Int)) := cell_of_row _ _ _ _ _ (0, 0) HXx.r0
      have z1_0 : wx.cell? ⟨w.heap.size + 1, 0, none⟩ = some (.int .u32 s1) := cell_of_row _ _ _ _ _ (0, 0) HXx.r1
      have z1_1 : wx.cell? ⟨w.heap.size + 1, 1, none⟩ = some (.int .u32 s2) := cell_of_row _ _ _ _ _ (0, 0) HXx.r1
      have z1_2 : wx.cell? ⟨w.heap.size + 1, 2, none⟩ = some (.int .u32 s3) := cell_of_row _ _ _ _ _ (0, 0) HXx.r1
      have HK2 := Lib.hid hK
      have HX := Lib.hid hx
      clear hK h1 h2 hx
      go_simp
      first
        | (go_at_call 27; refine (FP.out _).mono ?_; rintro e x1 ⟨rfl, hb⟩; exact HK2.out _ (HX.out.quiet 0 (by rfl) hb))
        | (go_at_call 26; refine (FL.out _).mono ?_; rintro e x1 ⟨rfl, hb⟩; exact HK2.out _ (HX.out.quiet 0 (by rfl) hb))
        | exact HK2.out _ (HX.out.quiet 0 (by rfl) (Below.refl _ _))
    simp only [Act.put, List.setIfInBounds_toArray, List.set_cons_succ, List.set_cons_zero]
    apply Ghost.walk_const (fun γ => by rfl)
    · intro γ L wx h1 h2 hx K hK
      have HXx := HB1.out.next hx.below
      have z0_0 : wx.cell? ⟨w.heap.size, 0, none⟩ = some (.int .i64 ((2 : Nat) : Int)) := cell_of_row _ _ _ _ _ (0, 0) HXx.r0
      have z0_1 : wx.cell? ⟨w.heap.size, 1, none⟩ = some (.int .i64 (o : Int)) := cell_of_row _ _ _ _ _ (0, 0) HXx.r0
      have z1_0 : wx.cell? ⟨w.heap.size + 1, 0, none⟩ = some (.int .u32 s1) := cell_of_row _ _ _ _ _ (0, 0) HXx.r1
      have z1_1 : wx.cell? ⟨w.heap.size + 1, 1, none⟩ = some (.int .u32 s2) := cell_of_row _ _ _ _ _ (0, 0) HXx.r1
      have z1_2 : wx.cell? ⟨w.heap.size + 1, 2, none⟩ = some (.int .u32 s3) := cell_of_row _ _ _ _ _ (0, 0) HXx.r1
      have HK2 := Lib.hid hK
      have HX := Lib.hid hx
      clear hK h1 h2 hx
      go_simp
      first
        | (go_at_call 27; refine (FP.out _).mono ?_; rintro e x1 ⟨rfl, hb⟩; exact HK2.out _ (HX.out.quiet 0 (by rfl) hb))
        | (go_at_call 26; refine (FL.out _).mono ?_; rintro e x1 ⟨rfl, hb⟩; exact HK2.out _ (HX.out.quiet 0 (by rfl) hb))
        | exact HK2.out _ (HX.out.quiet 0 (by rfl) (Below.refl _ _))
    simp only [Act.put, List.setIfInBounds_toArray, List.set_cons_succ, List.set_cons_zero]
    apply Ghost.walk_const (fun γ => by rfl)
    · intro γ L wx h1 h2 hx K hK
      have HXx := HB1.out.next hx.below
      have z0_0 : wx.cell? ⟨w.heap.size, 0, none⟩ = some (.int .i64 ((2 : Nat) : Int)) := cell_of_row _ _ _ _ _ (0, 0) HXx.r0
      have z0_1 : wx.cell? ⟨w.heap.size, 1, none⟩ = some (.int .i64 (o : Int)) := cell_of_row _ _ _ _ _ (0, 0) HXx.r0
      have z1_0 : wx.cell? ⟨w.heap.size + 1, 0, none⟩ = some (.int .u32 s1) := cell_of_row _ _ _ _ _ (0, 0) HXx.r1
      have z1_1 : wx.cell? ⟨w.heap.size + 1, 1, none⟩ = some (.int .u32 s2) := cell_of_row _ _ _ _ _ (0, 0) HXx.r1
      have z1_2 : wx.cell? ⟨w.heap.size + 1, 2, none⟩ = some (.int .u32 s3) := cell_of_row _ _ _ _ _ (0, 0) HXx.r1
      have HK2 := Lib.hid hK
      have HX := Lib.hid hx
      clear hK h1 h2 hx
      go_simp
      first
        | (go_at_call 27; refine (FP.out _).mono ?_; rintro e x1 ⟨rfl, hb⟩; exact HK2.out _ (HX.out.quiet 0 (by rfl) hb))
        | (go_at_call 26; refine (FL.out _).mono ?_; rintro e x1 ⟨rfl, hb⟩; exact HK2.out _ (HX.out.quiet 0 (by rfl) hb))
        | exact HK2.out _ (HX.out.quiet 0 (by rfl) (Below.refl _ _))
    simp only [Act.put, List.setIfInBounds_toArray, List.set_cons_succ, List.set_cons_zero]
    refine Ghost.walk_yes (fun b => .pointer (some ⟨b, 0, none⟩)) (fun γ => by rfl) ?_ ?_
    · intro γ L wx h1 h2 hx K hK
      have HK2 := Lib.hid hK
      clear hK h2
      have hL : L (⟨7, 8, 59, #[.bool false, .bool false, .bool false, .bool false, .bool false, .int .i64 0], #[.bool xu, .bool xd, .bool xc, .bool xa, .bool xb, .int .i64 (xn : Int)]⟩ : Decl).al = false := h1
      clear h1
      go_simp
      exact HK2.out wx.heap.size _ (hx.alloc (⟨7, 8, 59, #[.bool false, .bool false, .bool false, .bool false, .bool false, .int .i64 0], #[.bool xu, .bool xd, .bool xc, .bool xa, .bool xb, .int .i64 (xn : Int)]⟩ : Decl) (decl_mem _) hL (by rfl) (decl_al _))
    simp only [Act.put, List.setIfInBounds_toArray, List.set_cons_succ, List.set_cons_zero]
    refine Ghost.walk_yes (fun _ => undef) (fun γ => by rfl) ?_ ?_
    · intro γ L wx h1 h2 hx K hK
      have hA : L (⟨7, 8, 59, #[.bool false, .bool false, .bool false, .bool false, .bool false, .int .i64 0], #[.bool xu, .bool xd, .bool xc, .bool xa, .bool xb, .int .i64 (xn : Int)]⟩ : Decl).al = true := h2 7 (by kernel_rfl)
      exact hx.wp_store (⟨7, 8, 59, #[.bool false, .bool false, .bool false, .bool false, .bool false, .int .i64 0], #[.bool xu, .bool xd, .bool xc, .bool xa, .bool xb, .int .i64 (xn : Int)]⟩ : Decl) (decl_mem _) h1 hA _ _ rfl rfl rfl (by kernel_rfl) rfl (by kernel_rfl) (hK 0 _ (hx.store (⟨7, 8, 59, #[.bool false, .bool false, .bool false, .bool false, .bool false, .int .i64 0], #[.bool xu, .bool xd, .bool xc, .bool xa, .bool xb, .int .i64 (xn : Int)]⟩ : Decl) (decl_mem _) hA (by rfl) (decl_st _) (decl_al _) 0))
    simp only [Act.put]
    refine Ghost.walk_nil (fun γ L w2 hall hD => ?_)
    obtain ⟨hd2, hr2, hb2⟩ := hD.done1 hall (by show 7 < 9; decide) (by show 8 < 9; decide)
    clear hall hD
    simp only [Nat.zero_add, Nat.reduceAdd] at hd2 hr2 ⊢
    generalize γ 7 = gn at *
    have HB2 := Lib.hid (HB1.out.make hr2 hb2)
    have l2_0 : w.heap.size < gn := by omega
    have l2_1 : w.heap.size + 1 < gn := by omega
    have l2_2 : w.heap.size + 2 < gn := by omega
    have lw2 : w.heap.size ≤ gn := by have := HB1.out.below.size; omega
    clear hd2 hr2 hb2 HB1 q0 q1 q2
    have c0_0 : w2.cell? ⟨gn, 0, none⟩ = some (.bool xu) := cell_of_row _ _ _ _ _ (0, 0) HB2.out.r0
    have c0_1 : w2.cell? ⟨gn, 1, none⟩ = some (.bool xd) := cell_of_row _ _ _ _ _ (0, 0) HB2.out.r0
    have c0_2 : w2.cell? ⟨gn, 2, none⟩ = some (.bool xc) := cell_of_row _ _ _ _ _ (0, 0) HB2.out.r0
    have c0_3 : w2.cell? ⟨gn, 3, none⟩ = some (.bool xa) := cell_of_row _ _ _ _ _ (0, 0) HB2.out.r0
    have c0_4 : w2.cell? ⟨gn, 4, none⟩ = some (.bool xb) := cell_of_row _ _ _ _ _ (0, 0) HB2.out.r0
    have c0_5 : w2.cell? ⟨gn, 5, none⟩ = some (.int .i64 (xn : Int)) := cell_of_row _ _ _ _ _ (0, 0) HB2.out.r0
    have c1_0 : w2.cell? ⟨w.heap.size, 0, none⟩ = some (.int .i64 ((2 : Nat) : Int)) := cell_of_row _ _ _ _ _ (0, 0) HB2.out.r1
    have c1_1 : w2.cell? ⟨w.heap.size, 1, none⟩ = some (.int .i64 (o : Int)) := cell_of_row _ _ _ _ _ (0, 0) HB2.out.r1
    go_wp2_with fail
    refine (FW.out _).mono ?_
    rintro e w3 ⟨rfl, hb3⟩
    have HB3 := Lib.hid (HB2.out.next hb3)
    clear c0_0 c0_1 c0_2 c0_3 c0_4 c0_5 c1_0 c1_1 hb3 HB2
    go_wp2_with (with_reducible show wpList _ _ _ (Oper.mk _ (.store 38 _ _) _ _ _ _ :: _) _ _; refine Hid.out ?_)
    refine Lib.hid ?_
    have l4_0 : gn < w3.heap.size := (Array.getElem?_eq_some_iff.1 HB3.out.r0).1
    have l4_1 : w.heap.size < w3.heap.size := (Array.getElem?_eq_some_iff.1 HB3.out.r1).1
    have l4_2 : w.heap.size + 1 < w3.heap.size := (Array.getElem?_eq_some_iff.1 HB3.out.r2).1
    have l4_3 : w.heap.size + 2 < w3.heap.size := (Array.getElem?_eq_some_iff.1 HB3.out.r3).1
    have lw4 : w.heap.size ≤ w3.heap.size := HB3.out.below.size
    refine wpList_put rfl 38 _ _ rfl w3.heap.size #[.int .i64 (r1 : Int), .int .i64 (r2 : Int), .int .i64 (r3 : Int)] _ 38 rfl rfl (heap_alloc_new w3 _) (by kernel_rfl) rfl (by kernel_rfl) ?_
    intro w4 hr4 hg4
    have HB4 : Hid (Bx w [(w3.heap.size, .cells #[.int .i64 (r1 : Int), .int .i64 (r2 : Int), .int .i64 (r3 : Int)] 38 (0, 0)), (gn, .cells #[.bool xu, .bool xd, .bool xc, .bool xa, .bool xb, .int .i64 (xn : Int)] 59 (0, 0)), (w.heap.size, .cells #[.int .i64 ((2 : Nat) : Int), .int .i64 (o : Int)] 23 (0, 0)), (w.heap.size + 1, .cells #[.int .u32 s1, .int .u32 s2, .int .u32 s3] 30 (0, 0)), (w.heap.size + 2, .cells #[.int .i64 0, .int .i64 0, .int .i64 0] 38 (0, 0))] w4) := Lib.hid ((HB3.out.make (heap_alloc_new w3 (.cells #[.int .i64 0, .int .i64 0, .int .i64 0] 38)) ((Below.refl w3.heap.size w3).alloc (Nat.le_refl _) _)).put HB3.out.below.size hg4.out hr4.out (by simp only [List.mem_cons, List.not_mem_nil, or_false]; rintro p (rfl | rfl | rfl | rfl | rfl) <;> simp <;> omega))
    clear hr4 hg4 HB3
    generalize w3.heap.size = gc at *
    have c0_0 : w4.cell? ⟨gc, 0, none⟩ = some (.int .i64 (r1 : Int)) := cell_of_row _ _ _ _ _ (0, 0) HB4.out.r0
    have c0_1 : w4.cell? ⟨gc, 1, none⟩ = some (.int .i64 (r2 : Int)) := cell_of_row _ _ _ _ _ (0, 0) HB4.out.r0
    have c0_2 : w4.cell? ⟨gc, 2, none⟩ = some (.int .i64 (r3 : Int)) := cell_of_row _ _ _ _ _ (0, 0) HB4.out.r0
    have c1_0 : w4.cell? ⟨gn, 0, none⟩ = some (.bool xu) := cell_of_row _ _ _ _ _ (0, 0) HB4.out.r1
    have c1_1 : w4.cell? ⟨gn, 1, none⟩ = some (.bool xd) := cell_of_row _ _ _ _ _ (0, 0) HB4.out.r1
    have c1_2 : w4.cell? ⟨gn, 2, none⟩ = some (.bool xc) := cell_of_row _ _ _ _ _ (0, 0) HB4.out.r1
    have c1_3 : w4.cell? ⟨gn, 3, none⟩ = some (.bool xa) := cell_of_row _ _ _ _ _ (0, 0) HB4.out.r1
    have c1_4 : w4.cell? ⟨gn, 4, none⟩ = some (.bool xb) := cell_of_row _ _ _ _ _ (0, 0) HB4.out.r1
    have c1_5 : w4.cell? ⟨gn, 5, none⟩ = some (.int .i64 (xn : Int)) := cell_of_row _ _ _ _ _ (0, 0) HB4.out.r1
    cases ok
    · have HZ := Lib.hid True.intro
      clear HZ
      go_wp2_with fail
      refine (FT.out _).mono ?_
      rintro e w5 ⟨rfl, hb5⟩
      have HB5 := Lib.hid (HB4.out.next hb5)
      clear c0_0 c0_1 c0_2 c1_0 c1_1 c1_2 c1_3 c1_4 c1_5 hb5 HB4
      go_wp2_with (with_reducible show wpList _ _ _ (Oper.mk _ (.store 38 _ _) _ _ _ _ :: _) _ _; refine Hid.out ?_)
      refine Lib.hid ?_
      refine wpList_put rfl 38 _ _ rfl (w.heap.size + 2) #[.int .i64 (z1 : Int), .int .i64 (z2 : Int), .int .i64 (z3 : Int)] _ 38 rfl rfl HB5.out.r4 (by kernel_rfl) rfl (by kernel_rfl) ?_
      intro w6 hr6 hg6
      have HB6 : Hid (Bx w [(gc, .cells #[.int .i64 (r1 : Int), .int .i64 (r2 : Int), .int .i64 (r3 : Int)] 38 (0, 0)), (gn, .cells #[.bool xu, .bool xd, .bool xc, .bool xa, .bool xb, .int .i64 (xn : Int)] 59 (0, 0)), (w.heap.size, .cells #[.int .i64 ((2 : Nat) : Int), .int .i64 (o : Int)] 23 (0, 0)), (w.heap.size + 1, .cells #[.int .u32 s1, .int .u32 s2, .int .u32 s3] 30 (0, 0)), (w.heap.size + 2, .cells #[.int .i64 (z1 : Int), .int .i64 (z2 : Int), .int .i64 (z3 : Int)] 38 (0, 0))] w6) := Lib.hid (HB5.out.put (by omega) hg6.out hr6.out (by simp only [List.mem_cons, List.not_mem_nil, or_false]; rintro p (rfl | rfl | rfl | rfl | rfl) <;> simp <;> omega))
      clear hr6 hg6 HB5
      go_wp2_with fail
      exact bodyPost_ret (results_cell_row Tryd.results17 _ _ _ _ _ (0, 0) _ rfl (HB6.out.r4) Tryd.underlying38 rfl (by kernel_rfl)) rfl (⟨rfl, HB6.out.below⟩)
    · have HZ := Lib.hid True.intro
      clear HZ
      go_wp2_with (with_reducible show wpList _ _ _ (Oper.mk _ (.store 38 _ _) _ _ _ _ :: _) _ _; refine Hid.out ?_)
      refine Lib.hid ?_
      refine wpList_put rfl 38 _ _ rfl (w.heap.size + 2) #[.int .i64 (r1 : Int), .int .i64 (r2 : Int), .int .i64 (r3 : Int)] _ 38 rfl rfl HB4.out.r4 (by kernel_rfl) rfl (by kernel_rfl) ?_
      intro w5 hr5 hg5
      have HB5 : Hid (Bx w [(gc, .cells #[.int .i64 (r1 : Int), .int .i64 (r2 : Int), .int .i64 (r3 : Int)] 38 (0, 0)), (gn, .cells #[.bool xu, .bool xd, .bool xc, .bool xa, .bool xb, .int .i64 (xn : Int)] 59 (0, 0)), (w.heap.size, .cells #[.int .i64 ((2 : Nat) : Int), .int .i64 (o : Int)] 23 (0, 0)), (w.heap.size + 1, .cells #[.int .u32 s1, .int .u32 s2, .int .u32 s3] 30 (0, 0)), (w.heap.size + 2, .cells #[.int .i64 (r1 : Int), .int .i64 (r2 : Int), .int .i64 (r3 : Int)] 38 (0, 0))] w5) := Lib.hid (HB4.out.put (by omega) hg5.out hr5.out (by simp only [List.mem_cons, List.not_mem_nil, or_false]; rintro p (rfl | rfl | rfl | rfl | rfl) <;> simp <;> omega))
      clear c0_0 c0_1 c0_2 c1_0 c1_1 c1_2 c1_3 c1_4 c1_5 hr5 hg5 HB4
      go_wp2_with fail
      exact bodyPost_ret (results_cell_row Tryd.results17 _ _ _ _ _ (0, 0) _ rfl (HB5.out.r4) Tryd.underlying38 rfl (by kernel_rfl)) rfl (⟨rfl, HB5.out.below⟩)
theorem or_sh {q : Nat} (hq : q ≤ 7) : bits .or .i64 (q : Int) 1 = ((q ||| 2 ^ 0 : Nat) : Int) ∧ bits .or .i64 (q : Int) 2 = ((q ||| 2 ^ 1 : Nat) : Int) ∧ bits .or .i64 (q : Int) 4 = ((q ||| 2 ^ 2 : Nat) : Int) :=
  (by decide +kernel : ∀ q : Fin 8, bits .or .i64 (q.val : Int) 1 = ((q.val ||| 2 ^ 0 : Nat) : Int) ∧ bits .or .i64 (q.val : Int) 2 = ((q.val ||| 2 ^ 1 : Nat) : Int) ∧ bits .or .i64 (q.val : Int) 4 = ((q.val ||| 2 ^ 2 : Nat) : Int)) ⟨q, by omega⟩
set_option maxHeartbeats 8000000 in
theorem refNextGood_any (F f d o : Nat) (s : Stp) (w : World) (hF1 : 2 ≤ F) (hF : F ≤ 32) (hf : f < F) (hd : d ≤ 2) (ho : o ≤ 7) (hs : s.ok) :
    Calls Tryd.prog 18 #[.int .i64 (F : Int), .agg #[.int .i64 (d : Int), .int .i64 (o : Int)], .int .i64 (f : Int), s.agg] w fun ee w' => ee = .returned (nextF (Cv.cd o f (Cv.cnt F s)) (Cv.choose (Cv.look F o f s) d)) ∧ Below w.heap.size w w' := by
  have g1 : ¬ (F : Int) < 2 := by omega
  have g2 : ¬ (32 : Int) < (F : Int) := by omega
  have g3 : ¬ (f : Int) < 0 := by omega
  have g4 : ¬ (F : Int) ≤ (f : Int) := by omega
  have g5 : decide ((F : Int) > 32) = false := decide_eq_false (by omega)
  have g6 : decide ((f : Int) ≥ (F : Int)) = false := decide_eq_false (by omega)
  have FI := Lib.hid (fun wx => refIsSweep_any (d : Int) (o : Int) wx)
  rw [show isSw (d : Int) (o : Int) = true by unfold isSw; simp; omega] at FI
  have FH := Lib.hid (fun wx => refChooseGood_any F f d o s wx hF1 hF hf hd ho hs)
  have FP := Lib.hid (fun wx => refProper_any F s wx (by omega) hF hs)
  have hto := Cv.cnt_ok (F := F) hs
  have FC := Lib.hid (fun wx => refCounted_any (d : Int) o f (Cv.cnt F s) wx ho (by omega) hto)
  have hq : Cv.cd o f (Cv.cnt F s) ≤ 7 := by unfold Cv.cd; split <;> omega
  obtain ⟨q0, q1, q2⟩ := or_sh hq
  have hin := Cv.ch_in (Cv.look F o f s) d (Cv.look_fit _ _ _ _) hd
  generalize Cv.choose (Cv.look F o f s) d = z at *
  generalize Cv.cd o f (Cv.cnt F s) = q at *
  generalize Cv.cnt F s = t at *
  obtain ⟨s1, s2, s3⟩ := s
  obtain ⟨t1, t2, t3⟩ := t
  simp only [Stp.agg] at *
  clear hs ho hf hF hF1 hd hto hq
  simp only [List.mem_cons, List.not_mem_nil, or_false] at hin
  rcases hin with rfl | rfl | rfl | rfl | rfl | rfl
  · rw [show Cv.openC 0 = ⟨3, 0, 0⟩ from rfl] at FH
    rw [show nextF q (Cv.openC 0) = .agg #[.int .i64 0, .int .i64 ((q ||| 2 ^ 0 : Nat) : Int)] from rfl]
    simp only [Cv.Ch.agg] at FH
    have HZ := Lib.hid True.intro
    have HB0 := Lib.hid (bxs3 w (.cells #[.int .i64 (d : Int), .int .i64 (o : Int)] 23) (.cells #[.int .u32 s1, .int .u32 s2, .int .u32 s3] 30) (.cells #[.int .i64 0, .int .i64 0] 23))
    go_enter Tryd.func18, Tryd.ntmps18
    go_wp2_with fail
    refine (FI.out _).mono ?_
    rintro e w1 ⟨rfl, hb1⟩
    have HB1 := Lib.hid (HB0.out.next hb1)
    clear hb1 HB0
    have c0_0 : w1.cell? ⟨w.heap.size, 0, none⟩ = some (.int .i64 (d : Int)) := cell_of_row _ _ _ _ _ (0, 0) HB1.out.r0
    have c0_1 : w1.cell? ⟨w.heap.size, 1, none⟩ = some (.int .i64 (o : Int)) := cell_of_row _ _ _ _ _ (0, 0) HB1.out.r0
    have c1_0 : w1.cell? ⟨w.heap.size + 1, 0, none⟩ = some (.int .u32 s1) := cell_of_row _ _ _ _ _ (0, 0) HB1.out.r1
    have c1_1 : w1.cell? ⟨w.heap.size + 1, 1, none⟩ = some (.int .u32 s2) := cell_of_row _ _ _ _ _ (0, 0) HB1.out.r1
    have c1_2 : w1.cell? ⟨w.heap.size + 1, 2, none⟩ = some (.int .u32 s3) := cell_of_row _ _ _ _ _ (0, 0) HB1.out.r1
    go_wp2_with fail
    refine (FH.out _).mono ?_
    rintro e w2 ⟨rfl, hb2⟩
    have HB2 := Lib.hid (HB1.out.next hb2)
    clear c0_0 c0_1 c1_0 c1_1 c1_2 hb2 HB1
    go_wp2_with (with_reducible show wpList _ _ _ (Oper.mk _ (.store 38 _ _) _ _ _ _ :: _) _ _; refine Hid.out ?_)
    refine Lib.hid ?_
    have l3_0 : w.heap.size < w2.heap.size := (Array.getElem?_eq_some_iff.1 HB2.out.r0).1
    have l3_1 : w.heap.size + 1 < w2.heap.size := (Array.getElem?_eq_some_iff.1 HB2.out.r1).1
    have l3_2 : w.heap.size + 2 < w2.heap.size := (Array.getElem?_eq_some_iff.1 HB2.out.r2).1
    have lw3 : w.heap.size ≤ w2.heap.size := HB2.out.below.size
    refine wpList_put rfl 38 _ _ rfl w2.heap.size #[.int .i64 3, .int .i64 0, .int .i64 0] _ 38 rfl rfl (heap_alloc_new w2 _) (by kernel_rfl) rfl (by kernel_rfl) ?_
    intro w3 hr3 hg3
    have HB3 : Hid (Bx w [(w2.heap.size, .cells #[.int .i64 3, .int .i64 0, .int .i64 0] 38 (0, 0)), (w.heap.size, .cells #[.int .i64 (d : Int), .int .i64 (o : Int)] 23 (0, 0)), (w.heap.size + 1, .cells #[.int .u32 s1, .int .u32 s2, .int .u32 s3] 30 (0, 0)), (w.heap.size + 2, .cells #[.int .i64 0, .int .i64 0] 23 (0, 0))] w3) := Lib.hid ((HB2.out.make (heap_alloc_new w2 (.cells #[.int .i64 0, .int .i64 0, .int .i64 0] 38)) ((Below.refl w2.heap.size w2).alloc (Nat.le_refl _) _)).put HB2.out.below.size hg3.out hr3.out (by simp only [List.mem_cons, List.not_mem_nil, or_false]; rintro p (rfl | rfl | rfl | rfl) <;> simp <;> omega))
    clear hr3 hg3 HB2
    generalize w2.heap.size = gc at *
    have c0_0 : w3.cell? ⟨gc, 0, none⟩ = some (.int .i64 3) := cell_of_row _ _ _ _ _ (0, 0) HB3.out.r0
    have c0_1 : w3.cell? ⟨gc, 1, none⟩ = some (.int .i64 0) := cell_of_row _ _ _ _ _ (0, 0) HB3.out.r0
    have c0_2 : w3.cell? ⟨gc, 2, none⟩ = some (.int .i64 0) := cell_of_row _ _ _ _ _ (0, 0) HB3.out.r0
    have c1_0 : w3.cell? ⟨w.heap.size, 0, none⟩ = some (.int .i64 (d : Int)) := cell_of_row _ _ _ _ _ (0, 0) HB3.out.r1
    have c1_1 : w3.cell? ⟨w.heap.size, 1, none⟩ = some (.int .i64 (o : Int)) := cell_of_row _ _ _ _ _ (0, 0) HB3.out.r1
    have c2_0 : w3.cell? ⟨w.heap.size + 1, 0, none⟩ = some (.int .u32 s1) := cell_of_row _ _ _ _ _ (0, 0) HB3.out.r2
    have c2_1 : w3.cell? ⟨w.heap.size + 1, 1, none⟩ = some (.int .u32 s2) := cell_of_row _ _ _ _ _ (0, 0) HB3.out.r2
    have c2_2 : w3.cell? ⟨w.heap.size + 1, 2, none⟩ = some (.int .u32 s3) := cell_of_row _ _ _ _ _ (0, 0) HB3.out.r2
    have hQv : (bits .or .i64 (q : Int) (IntKind.i64.wrap (2 ^ min (IntKind.u64.wrap 0).toNat 64))) = ((q ||| 2 ^ 0 : Nat) : Int) := by rw [show IntKind.i64.wrap (2 ^ min (IntKind.u64.wrap 0).toNat 64) = 1 by decide]; exact q0
    have HQV := Lib.hid hQv
    clear hQv
    go_wp2_with fail
    have q0 : gc < w3.heap.size := (Array.getElem?_eq_some_iff.1 HB3.out.r0).1
    have q1 : w.heap.size < w3.heap.size := (Array.getElem?_eq_some_iff.1 HB3.out.r1).1
    have q2 : w.heap.size + 1 < w3.heap.size := (Array.getElem?_eq_some_iff.1 HB3.out.r2).1
    have q3 : w.heap.size + 2 < w3.heap.size := (Array.getElem?_eq_some_iff.1 HB3.out.r3).1
    refine Chain.chain (fun p wx => Put (w3) (w.heap.size + 2) (.cells (if p = 0 then #[.int .i64 0, .int .i64 0] else #[.int .i64 0, .int .i64 (bits .or .i64 (q : Int) (IntKind.i64.wrap (2 ^ min (IntKind.u64.wrap 0).toNat 64)))]) 23 (0, 0)) wx) (fun _ _ => False) [14] (by kernel_rfl) (by kernel_rfl) (fun _ _ _ _ h => h.elim) ((Put.start HB3.out.r3).drew) ?_
    iterate 14 (first
        | (apply Chain.walk_quiet (by rfl) (by decide)
           (intro p wx hp hwn hx K hK
            have z0_0 : wx.cell? ⟨gc, 0, none⟩ = some (.int .i64 3) := cell_of_row _ _ _ _ _ (0, 0) ((hx.other (gc) q0 (by omega)).trans HB3.out.r0)
            have z0_1 : wx.cell? ⟨gc, 1, none⟩ = some (.int .i64 0) := cell_of_row _ _ _ _ _ (0, 0) ((hx.other (gc) q0 (by omega)).trans HB3.out.r0)
            have z0_2 : wx.cell? ⟨gc, 2, none⟩ = some (.int .i64 0) := cell_of_row _ _ _ _ _ (0, 0) ((hx.other (gc) q0 (by omega)).trans HB3.out.r0)
            have z1_0 : wx.cell? ⟨w.heap.size, 0, none⟩ = some (.int .i64 (d : Int)) := cell_of_row _ _ _ _ _ (0, 0) ((hx.other (w.heap.size) q1 (by omega)).trans HB3.out.r1)
            have z1_1 : wx.cell? ⟨w.heap.size, 1, none⟩ = some (.int .i64 (o : Int)) := cell_of_row _ _ _ _ _ (0, 0) ((hx.other (w.heap.size) q1 (by omega)).trans HB3.out.r1)
            have z2_0 : wx.cell? ⟨w.heap.size + 1, 0, none⟩ = some (.int .u32 s1) := cell_of_row _ _ _ _ _ (0, 0) ((hx.other (w.heap.size + 1) q2 (by omega)).trans HB3.out.r2)
            have z2_1 : wx.cell? ⟨w.heap.size + 1, 1, none⟩ = some (.int .u32 s2) := cell_of_row _ _ _ _ _ (0, 0) ((hx.other (w.heap.size + 1) q2 (by omega)).trans HB3.out.r2)
            have z2_2 : wx.cell? ⟨w.heap.size + 1, 2, none⟩ = some (.int .u32 s3) := cell_of_row _ _ _ _ _ (0, 0) ((hx.other (w.heap.size + 1) q2 (by omega)).trans HB3.out.r2)
            first
              | (go_simp
                 first
                  | (go_at_call 27; (with_reducible refine (FP.out _).mono ?_); rintro e x1 ⟨rfl, hb⟩; exact hK _ (hx.next hb))
                  | (go_at_call 32; (with_reducible refine (FC.out _).mono ?_); rintro e x1 ⟨rfl, hb⟩; exact hK _ (hx.next hb))
                  | (go_at_K; exact hK _ hx)))
           exact ⟨_, rfl⟩)
        | (refine Chain.walk_no (by rfl) (by decide) ?_; simp only [Act.put, List.setIfInBounds_toArray, List.set_cons_succ, List.set_cons_zero]))
    apply Chain.walk_turn 0 (by rfl) (by rfl)
    · intro wx hx K hK
      exact Put.store 23 _ _ rfl rfl rfl hx (by kernel_rfl) rfl (by kernel_rfl) (fun w2 h => hK w2 h)
    · exact ⟨undef, rfl⟩
    refine Chain.walk_nil (fun w4 hp4 => ?_)
    replace hp4 : Put (w3) (w.heap.size + 2) (.cells #[.int .i64 0, .int .i64 (bits .or .i64 (q : Int) (IntKind.i64.wrap (2 ^ min (IntKind.u64.wrap 0).toNat 64)))] 23 (0, 0)) w4 := hp4
    simp only [Act.put]
    have HB4 : Hid (Bx w [(gc, .cells #[.int .i64 3, .int .i64 0, .int .i64 0] 38 (0, 0)), (w.heap.size, .cells #[.int .i64 (d : Int), .int .i64 (o : Int)] 23 (0, 0)), (w.heap.size + 1, .cells #[.int .u32 s1, .int .u32 s2, .int .u32 s3] 30 (0, 0)), (w.heap.size + 2, .cells #[.int .i64 0, .int .i64 (bits .or .i64 (q : Int) (IntKind.i64.wrap (2 ^ min (IntKind.u64.wrap 0).toNat 64)))] 23 (0, 0))] w4) := Lib.hid (HB3.out.ofPut (by omega) hp4 (by simp only [List.mem_cons, List.not_mem_nil, or_false]; rintro p (rfl | rfl | rfl | rfl) <;> simp <;> omega))
    clear c0_0 c0_1 c0_2 c1_0 c1_1 c2_0 c2_1 c2_2 hp4 HB3 q0 q1 q2 q3
    go_wp2_with fail
    exact bodyPost_ret (results_cell_row Tryd.results18 _ _ _ _ _ (0, 0) _ rfl (HB4.out.r3) Tryd.underlying23 rfl (by kernel_rfl)) rfl (⟨by rw [HQV.out], HB4.out.below⟩)
  · rw [show Cv.openC 1 = ⟨3, 1, 1⟩ from rfl] at FH
    rw [show nextF q (Cv.openC 1) = .agg #[.int .i64 1, .int .i64 ((q ||| 2 ^ 1 : Nat) : Int)] from rfl]
    simp only [Cv.Ch.agg] at FH
    have HZ := Lib.hid True.intro
    have HB0 := Lib.hid (bxs3 w (.cells #[.int .i64 (d : Int), .int .i64 (o : Int)] 23) (.cells #[.int .u32 s1, .int .u32 s2, .int .u32 s3] 30) (.cells #[.int .i64 0, .int .i64 0] 23))
    go_enter Tryd.func18, Tryd.ntmps18
    go_wp2_with fail
    refine (FI.out _).mono ?_
    rintro e w1 ⟨rfl, hb1⟩
    have HB1 := Lib.hid (HB0.out.next hb1)
    clear hb1 HB0
    have c0_0 : w1.cell? ⟨w.heap.size, 0, none⟩ = some (.int .i64 (d : Int)) := cell_of_row _ _ _ _ _ (0, 0) HB1.out.r0
    have c0_1 : w1.cell? ⟨w.heap.size, 1, none⟩ = some (.int .i64 (o : Int)) := cell_of_row _ _ _ _ _ (0, 0) HB1.out.r0
    have c1_0 : w1.cell? ⟨w.heap.size + 1, 0, none⟩ = some (.int .u32 s1) := cell_of_row _ _ _ _ _ (0, 0) HB1.out.r1
    have c1_1 : w1.cell? ⟨w.heap.size + 1, 1, none⟩ = some (.int .u32 s2) := cell_of_row _ _ _ _ _ (0, 0) HB1.out.r1
    have c1_2 : w1.cell? ⟨w.heap.size + 1, 2, none⟩ = some (.int .u32 s3) := cell_of_row _ _ _ _ _ (0, 0) HB1.out.r1
    go_wp2_with fail
    refine (FH.out _).mono ?_
    rintro e w2 ⟨rfl, hb2⟩
    have HB2 := Lib.hid (HB1.out.next hb2)
    clear c0_0 c0_1 c1_0 c1_1 c1_2 hb2 HB1
    go_wp2_with (with_reducible show wpList _ _ _ (Oper.mk _ (.store 38 _ _) _ _ _ _ :: _) _ _; refine Hid.out ?_)
    refine Lib.hid ?_
    have l3_0 : w.heap.size < w2.heap.size := (Array.getElem?_eq_some_iff.1 HB2.out.r0).1
    have l3_1 : w.heap.size + 1 < w2.heap.size := (Array.getElem?_eq_some_iff.1 HB2.out.r1).1
    have l3_2 : w.heap.size + 2 < w2.heap.size := (Array.getElem?_eq_some_iff.1 HB2.out.r2).1
    have lw3 : w.heap.size ≤ w2.heap.size := HB2.out.below.size
    refine wpList_put rfl 38 _ _ rfl w2.heap.size #[.int .i64 3, .int .i64 1, .int .i64 1] _ 38 rfl rfl (heap_alloc_new w2 _) (by kernel_rfl) rfl (by kernel_rfl) ?_
    intro w3 hr3 hg3
    have HB3 : Hid (Bx w [(w2.heap.size, .cells #[.int .i64 3, .int .i64 1, .int .i64 1] 38 (0, 0)), (w.heap.size, .cells #[.int .i64 (d : Int), .int .i64 (o : Int)] 23 (0, 0)), (w.heap.size + 1, .cells #[.int .u32 s1, .int .u32 s2, .int .u32 s3] 30 (0, 0)), (w.heap.size + 2, .cells #[.int .i64 0, .int .i64 0] 23 (0, 0))] w3) := Lib.hid ((HB2.out.make (heap_alloc_new w2 (.cells #[.int .i64 0, .int .i64 0, .int .i64 0] 38)) ((Below.refl w2.heap.size w2).alloc (Nat.le_refl _) _)).put HB2.out.below.size hg3.out hr3.out (by simp only [List.mem_cons, List.not_mem_nil, or_false]; rintro p (rfl | rfl | rfl | rfl) <;> simp <;> omega))
    clear hr3 hg3 HB2
    generalize w2.heap.size = gc at *
    have c0_0 : w3.cell? ⟨gc, 0, none⟩ = some (.int .i64 3) := cell_of_row _ _ _ _ _ (0, 0) HB3.out.r0
    have c0_1 : w3.cell? ⟨gc, 1, none⟩ = some (.int .i64 1) := cell_of_row _ _ _ _ _ (0, 0) HB3.out.r0
    have c0_2 : w3.cell? ⟨gc, 2, none⟩ = some (.int .i64 1) := cell_of_row _ _ _ _ _ (0, 0) HB3.out.r0
    have c1_0 : w3.cell? ⟨w.heap.size, 0, none⟩ = some (.int .i64 (d : Int)) := cell_of_row _ _ _ _ _ (0, 0) HB3.out.r1
    have c1_1 : w3.cell? ⟨w.heap.size, 1, none⟩ = some (.int .i64 (o : Int)) := cell_of_row _ _ _ _ _ (0, 0) HB3.out.r1
    have c2_0 : w3.cell? ⟨w.heap.size + 1, 0, none⟩ = some (.int .u32 s1) := cell_of_row _ _ _ _ _ (0, 0) HB3.out.r2
    have c2_1 : w3.cell? ⟨w.heap.size + 1, 1, none⟩ = some (.int .u32 s2) := cell_of_row _ _ _ _ _ (0, 0) HB3.out.r2
    have c2_2 : w3.cell? ⟨w.heap.size + 1, 2, none⟩ = some (.int .u32 s3) := cell_of_row _ _ _ _ _ (0, 0) HB3.out.r2
    have hQv : (bits .or .i64 (q : Int) (IntKind.i64.wrap (2 ^ min (IntKind.u64.wrap 1).toNat 64))) = ((q ||| 2 ^ 1 : Nat) : Int) := by rw [show IntKind.i64.wrap (2 ^ min (IntKind.u64.wrap 1).toNat 64) = 2 by decide]; exact q1
    have HQV := Lib.hid hQv
    clear hQv
    go_wp2_with fail
    have q0 : gc < w3.heap.size := (Array.getElem?_eq_some_iff.1 HB3.out.r0).1
    have q1 : w.heap.size < w3.heap.size := (Array.getElem?_eq_some_iff.1 HB3.out.r1).1
    have q2 : w.heap.size + 1 < w3.heap.size := (Array.getElem?_eq_some_iff.1 HB3.out.r2).1
    have q3 : w.heap.size + 2 < w3.heap.size := (Array.getElem?_eq_some_iff.1 HB3.out.r3).1
    refine Chain.chain (fun p wx => Put (w3) (w.heap.size + 2) (.cells (if p = 0 then #[.int .i64 0, .int .i64 0] else #[.int .i64 1, .int .i64 (bits .or .i64 (q : Int) (IntKind.i64.wrap (2 ^ min (IntKind.u64.wrap 1).toNat 64)))]) 23 (0, 0)) wx) (fun _ _ => False) [14] (by kernel_rfl) (by kernel_rfl) (fun _ _ _ _ h => h.elim) ((Put.start HB3.out.r3).drew) ?_
    iterate 14 (first
        | (apply Chain.walk_quiet (by rfl) (by decide)
           (intro p wx hp hwn hx K hK
            have z0_0 : wx.cell? ⟨gc, 0, none⟩ = some (.int .i64 3) := cell_of_row _ _ _ _ _ (0, 0) ((hx.other (gc) q0 (by omega)).trans HB3.out.r0)
            have z0_1 : wx.cell? ⟨gc, 1, none⟩ = some (.int .i64 1) := cell_of_row _ _ _ _ _ (0, 0) ((hx.other (gc) q0 (by omega)).trans HB3.out.r0)
            have z0_2 : wx.cell? ⟨gc, 2, none⟩ = some (.int .i64 1) := cell_of_row _ _ _ _ _ (0, 0) ((hx.other (gc) q0 (by omega)).trans HB3.out.r0)
            have z1_0 : wx.cell? ⟨w.heap.size, 0, none⟩ = some (.int .i64 (d : Int)) := cell_of_row _ _ _ _ _ (0, 0) ((hx.other (w.heap.size) q1 (by omega)).trans HB3.out.r1)
            have z1_1 : wx.cell? ⟨w.heap.size, 1, none⟩ = some (.int .i64 (o : Int)) := cell_of_row _ _ _ _ _ (0, 0) ((hx.other (w.heap.size) q1 (by omega)).trans HB3.out.r1)
            have z2_0 : wx.cell? ⟨w.heap.size + 1, 0, none⟩ = some (.int .u32 s1) := cell_of_row _ _ _ _ _ (0, 0) ((hx.other (w.heap.size + 1) q2 (by omega)).trans HB3.out.r2)
            have z2_1 : wx.cell? ⟨w.heap.size + 1, 1, none⟩ = some (.int .u32 s2) := cell_of_row _ _ _ _ _ (0, 0) ((hx.other (w.heap.size + 1) q2 (by omega)).trans HB3.out.r2)
            have z2_2 : wx.cell? ⟨w.heap.size + 1, 2, none⟩ = some (.int .u32 s3) := cell_of_row _ _ _ _ _ (0, 0) ((hx.other (w.heap.size + 1) q2 (by omega)).trans HB3.out.r2)
            first
              | (go_simp
                 first
                  | (go_at_call 27; (with_reducible refine (FP.out _).mono ?_); rintro e x1 ⟨rfl, hb⟩; exact hK _ (hx.next hb))
                  | (go_at_call 32; (with_reducible refine (FC.out _).mono ?_); rintro e x1 ⟨rfl, hb⟩; exact hK _ (hx.next hb))
                  | (go_at_K; exact hK _ hx)))
           exact ⟨_, rfl⟩)
        | (refine Chain.walk_no (by rfl) (by decide) ?_; simp only [Act.put, List.setIfInBounds_toArray, List.set_cons_succ, List.set_cons_zero]))
    apply Chain.walk_turn 0 (by rfl) (by rfl)
    · intro wx hx K hK
      exact Put.store 23 _ _ rfl rfl rfl hx (by kernel_rfl) rfl (by kernel_rfl) (fun w2 h => hK w2 h)
    · exact ⟨undef, rfl⟩
    refine Chain.walk_nil (fun w4 hp4 => ?_)
    replace hp4 : Put (w3) (w.heap.size + 2) (.cells #[.int .i64 1, .int .i64 (bits .or .i64 (q : Int) (IntKind.i64.wrap (2 ^ min (IntKind.u64.wrap 1).toNat 64)))] 23 (0, 0)) w4 := hp4
    simp only [Act.put]
    have HB4 : Hid (Bx w [(gc, .cells #[.int .i64 3, .int .i64 1, .int .i64 1] 38 (0, 0)), (w.heap.size, .cells #[.int .i64 (d : Int), .int .i64 (o : Int)] 23 (0, 0)), (w.heap.size + 1, .cells #[.int .u32 s1, .int .u32 s2, .int .u32 s3] 30 (0, 0)), (w.heap.size + 2, .cells #[.int .i64 1, .int .i64 (bits .or .i64 (q : Int) (IntKind.i64.wrap (2 ^ min (IntKind.u64.wrap 1).toNat 64)))] 23 (0, 0))] w4) := Lib.hid (HB3.out.ofPut (by omega) hp4 (by simp only [List.mem_cons, List.not_mem_nil, or_false]; rintro p (rfl | rfl | rfl | rfl) <;> simp <;> omega))
    clear c0_0 c0_1 c0_2 c1_0 c1_1 c2_0 c2_1 c2_2 hp4 HB3 q0 q1 q2 q3
    go_wp2_with fail
    exact bodyPost_ret (results_cell_row Tryd.results18 _ _ _ _ _ (0, 0) _ rfl (HB4.out.r3) Tryd.underlying23 rfl (by kernel_rfl)) rfl (⟨by rw [HQV.out], HB4.out.below⟩)
  · rw [show Cv.openC 2 = ⟨3, 2, 2⟩ from rfl] at FH
    rw [show nextF q (Cv.openC 2) = .agg #[.int .i64 2, .int .i64 ((q ||| 2 ^ 2 : Nat) : Int)] from rfl]
    simp only [Cv.Ch.agg] at FH
    have HZ := Lib.hid True.intro
    have HB0 := Lib.hid (bxs3 w (.cells #[.int .i64 (d : Int), .int .i64 (o : Int)] 23) (.cells #[.int .u32 s1, .int .u32 s2, .int .u32 s3] 30) (.cells #[.int .i64 0, .int .i64 0] 23))
    go_enter Tryd.func18, Tryd.ntmps18
    go_wp2_with fail
    refine (FI.out _).mono ?_
    rintro e w1 ⟨rfl, hb1⟩
    have HB1 := Lib.hid (HB0.out.next hb1)
    clear hb1 HB0
    have c0_0 : w1.cell? ⟨w.heap.size, 0, none⟩ = some (.int .i64 (d : Int)) := cell_of_row _ _ _ _ _ (0, 0) HB1.out.r0
    have c0_1 : w1.cell? ⟨w.heap.size, 1, none⟩ = some (.int .i64 (o : Int)) := cell_of_row _ _ _ _ _ (0, 0) HB1.out.r0
    have c1_0 : w1.cell? ⟨w.heap.size + 1, 0, none⟩ = some (.int .u32 s1) := cell_of_row _ _ _ _ _ (0, 0) HB1.out.r1
    have c1_1 : w1.cell? ⟨w.heap.size + 1, 1, none⟩ = some (.int .u32 s2) := cell_of_row _ _ _ _ _ (0, 0) HB1.out.r1
    have c1_2 : w1.cell? ⟨w.heap.size + 1, 2, none⟩ = some (.int .u32 s3) := cell_of_row _ _ _ _ _ (0, 0) HB1.out.r1
    go_wp2_with fail
    refine (FH.out _).mono ?_
    rintro e w2 ⟨rfl, hb2⟩
    have HB2 := Lib.hid (HB1.out.next hb2)
    clear c0_0 c0_1 c1_0 c1_1 c1_2 hb2 HB1
    go_wp2_with (with_reducible show wpList _ _ _ (Oper.mk _ (.store 38 _ _) _ _ _ _ :: _) _ _; refine Hid.out ?_)
    refine Lib.hid ?_
    have l3_0 : w.heap.size < w2.heap.size := (Array.getElem?_eq_some_iff.1 HB2.out.r0).1
    have l3_1 : w.heap.size + 1 < w2.heap.size := (Array.getElem?_eq_some_iff.1 HB2.out.r1).1
    have l3_2 : w.heap.size + 2 < w2.heap.size := (Array.getElem?_eq_some_iff.1 HB2.out.r2).1
    have lw3 : w.heap.size ≤ w2.heap.size := HB2.out.below.size
    refine wpList_put rfl 38 _ _ rfl w2.heap.size #[.int .i64 3, .int .i64 2, .int .i64 2] _ 38 rfl rfl (heap_alloc_new w2 _) (by kernel_rfl) rfl (by kernel_rfl) ?_
    intro w3 hr3 hg3
    have HB3 : Hid (Bx w [(w2.heap.size, .cells #[.int .i64 3, .int .i64 2, .int .i64 2] 38 (0, 0)), (w.heap.size, .cells #[.int .i64 (d : Int), .int .i64 (o : Int)] 23 (0, 0)), (w.heap.size + 1, .cells #[.int .u32 s1, .int .u32 s2, .int .u32 s3] 30 (0, 0)), (w.heap.size + 2, .cells #[.int .i64 0, .int .i64 0] 23 (0, 0))] w3) := Lib.hid ((HB2.out.make (heap_alloc_new w2 (.cells #[.int .i64 0, .int .i64 0, .int .i64 0] 38)) ((Below.refl w2.heap.size w2).alloc (Nat.le_refl _) _)).put HB2.out.below.size hg3.out hr3.out (by simp only [List.mem_cons, List.not_mem_nil, or_false]; rintro p (rfl | rfl | rfl | rfl) <;> simp <;> omega))
    clear hr3 hg3 HB2
    generalize w2.heap.size = gc at *
    have c0_0 : w3.cell? ⟨gc, 0, none⟩ = some (.int .i64 3) := cell_of_row _ _ _ _ _ (0, 0) HB3.out.r0
    have c0_1 : w3.cell? ⟨gc, 1, none⟩ = some (.int .i64 2) := cell_of_row _ _ _ _ _ (0, 0) HB3.out.r0
    have c0_2 : w3.cell? ⟨gc, 2, none⟩ = some (.int .i64 2) := cell_of_row _ _ _ _ _ (0, 0) HB3.out.r0
    have c1_0 : w3.cell? ⟨w.heap.size, 0, none⟩ = some (.int .i64 (d : Int)) := cell_of_row _ _ _ _ _ (0, 0) HB3.out.r1
    have c1_1 : w3.cell? ⟨w.heap.size, 1, none⟩ = some (.int .i64 (o : Int)) := cell_of_row _ _ _ _ _ (0, 0) HB3.out.r1
    have c2_0 : w3.cell? ⟨w.heap.size + 1, 0, none⟩ = some (.int .u32 s1) := cell_of_row _ _ _ _ _ (0, 0) HB3.out.r2
    have c2_1 : w3.cell? ⟨w.heap.size + 1, 1, none⟩ = some (.int .u32 s2) := cell_of_row _ _ _ _ _ (0, 0) HB3.out.r2
    have c2_2 : w3.cell? ⟨w.heap.size + 1, 2, none⟩ = some (.int .u32 s3) := cell_of_row _ _ _ _ _ (0, 0) HB3.out.r2
    have hQv : (bits .or .i64 (q : Int) (IntKind.i64.wrap (2 ^ min (IntKind.u64.wrap 2).toNat 64))) = ((q ||| 2 ^ 2 : Nat) : Int) := by rw [show IntKind.i64.wrap (2 ^ min (IntKind.u64.wrap 2).toNat 64) = 4 by decide]; exact q2
    have HQV := Lib.hid hQv
    clear hQv
    go_wp2_with fail
    have q0 : gc < w3.heap.size := (Array.getElem?_eq_some_iff.1 HB3.out.r0).1
    have q1 : w.heap.size < w3.heap.size := (Array.getElem?_eq_some_iff.1 HB3.out.r1).1
    have q2 : w.heap.size + 1 < w3.heap.size := (Array.getElem?_eq_some_iff.1 HB3.out.r2).1
    have q3 : w.heap.size + 2 < w3.heap.size := (Array.getElem?_eq_some_iff.1 HB3.out.r3).1
    refine Chain.chain (fun p wx => Put (w3) (w.heap.size + 2) (.cells (if p = 0 then #[.int .i64 0, .int .i64 0] else #[.int .i64 2, .int .i64 (bits .or .i64 (q : Int) (IntKind.i64.wrap (2 ^ min (IntKind.u64.wrap 2).toNat 64)))]) 23 (0, 0)) wx) (fun _ _ => False) [14] (by kernel_rfl) (by kernel_rfl) (fun _ _ _ _ h => h.elim) ((Put.start HB3.out.r3).drew) ?_
    iterate 14 (first
        | (apply Chain.walk_quiet (by rfl) (by decide)
           (intro p wx hp hwn hx K hK
            have z0_0 : wx.cell? ⟨gc, 0, none⟩ = some (.int .i64 3) := cell_of_row _ _ _ _ _ (0, 0) ((hx.other (gc) q0 (by omega)).trans HB3.out.r0)
            have z0_1 : wx.cell? ⟨gc, 1, none⟩ = some (.int .i64 2) := cell_of_row _ _ _ _ _ (0, 0) ((hx.other (gc) q0 (by omega)).trans HB3.out.r0)
            have z0_2 : wx.cell? ⟨gc, 2, none⟩ = some (.int .i64 2) := cell_of_row _ _ _ _ _ (0, 0) ((hx.other (gc) q0 (by omega)).trans HB3.out.r0)
            have z1_0 : wx.cell? ⟨w.heap.size, 0, none⟩ = some (.int .i64 (d : Int)) := cell_of_row _ _ _ _ _ (0, 0) ((hx.other (w.heap.size) q1 (by omega)).trans HB3.out.r1)
            have z1_1 : wx.cell? ⟨w.heap.size, 1, none⟩ = some (.int .i64 (o : Int)) := cell_of_row _ _ _ _ _ (0, 0) ((hx.other (w.heap.size) q1 (by omega)).trans HB3.out.r1)
            have z2_0 : wx.cell? ⟨w.heap.size + 1, 0, none⟩ = some (.int .u32 s1) := cell_of_row _ _ _ _ _ (0, 0) ((hx.other (w.heap.size + 1) q2 (by omega)).trans HB3.out.r2)
            have z2_1 : wx.cell? ⟨w.heap.size + 1, 1, none⟩ = some (.int .u32 s2) := cell_of_row _ _ _ _ _ (0, 0) ((hx.other (w.heap.size + 1) q2 (by omega)).trans HB3.out.r2)
            have z2_2 : wx.cell? ⟨w.heap.size + 1, 2, none⟩ = some (.int .u32 s3) := cell_of_row _ _ _ _ _ (0, 0) ((hx.other (w.heap.size + 1) q2 (by omega)).trans HB3.out.r2)
            first
              | (go_simp
                 first
                  | (go_at_call 27; (with_reducible refine (FP.out _).mono ?_); rintro e x1 ⟨rfl, hb⟩; exact hK _ (hx.next hb))
                  | (go_at_call 32; (with_reducible refine (FC.out _).mono ?_); rintro e x1 ⟨rfl, hb⟩; exact hK _ (hx.next hb))
                  | (go_at_K; exact hK _ hx)))
           exact ⟨_, rfl⟩)
        | (refine Chain.walk_no (by rfl) (by decide) ?_; simp only [Act.put, List.setIfInBounds_toArray, List.set_cons_succ, List.set_cons_zero]))
    apply Chain.walk_turn 0 (by rfl) (by rfl)
    · intro wx hx K hK
      exact Put.store 23 _ _ rfl rfl rfl hx (by kernel_rfl) rfl (by kernel_rfl) (fun w2 h => hK w2 h)
    · exact ⟨undef, rfl⟩
    refine Chain.walk_nil (fun w4 hp4 => ?_)
    replace hp4 : Put (w3) (w.heap.size + 2) (.cells #[.int .i64 2, .int .i64 (bits .or .i64 (q : Int) (IntKind.i64.wrap (2 ^ min (IntKind.u64.wrap 2).toNat 64)))] 23 (0, 0)) w4 := hp4
    simp only [Act.put]
    have HB4 : Hid (Bx w [(gc, .cells #[.int .i64 3, .int .i64 2, .int .i64 2] 38 (0, 0)), (w.heap.size, .cells #[.int .i64 (d : Int), .int .i64 (o : Int)] 23 (0, 0)), (w.heap.size + 1, .cells #[.int .u32 s1, .int .u32 s2, .int .u32 s3] 30 (0, 0)), (w.heap.size + 2, .cells #[.int .i64 2, .int .i64 (bits .or .i64 (q : Int) (IntKind.i64.wrap (2 ^ min (IntKind.u64.wrap 2).toNat 64)))] 23 (0, 0))] w4) := Lib.hid (HB3.out.ofPut (by omega) hp4 (by simp only [List.mem_cons, List.not_mem_nil, or_false]; rintro p (rfl | rfl | rfl | rfl) <;> simp <;> omega))
    clear c0_0 c0_1 c0_2 c1_0 c1_1 c2_0 c2_1 c2_2 hp4 HB3 q0 q1 q2 q3
    go_wp2_with fail
    exact bodyPost_ret (results_cell_row Tryd.results18 _ _ _ _ _ (0, 0) _ rfl (HB4.out.r3) Tryd.underlying23 rfl (by kernel_rfl)) rfl (⟨by rw [HQV.out], HB4.out.below⟩)
  · rw [show Cv.moveC 0 = ⟨0, 0, 0⟩ from rfl] at FH
    rw [show nextF q (Cv.moveC 0) = .agg #[.int .i64 0, .int .i64 0] from rfl]
    simp only [Cv.Ch.agg] at FH
    have HZ := Lib.hid True.intro
    have HB0 := Lib.hid (bxs3 w (.cells #[.int .i64 (d : Int), .int .i64 (o : Int)] 23) (.cells #[.int .u32 s1, .int .u32 s2, .int .u32 s3] 30) (.cells #[.int .i64 0, .int .i64 0] 23))
    go_enter Tryd.func18, Tryd.ntmps18
    go_wp2_with fail
    refine (FI.out _).mono ?_
    rintro e w1 ⟨rfl, hb1⟩
    have HB1 := Lib.hid (HB0.out.next hb1)
    clear hb1 HB0
    have c0_0 : w1.cell? ⟨w.heap.size, 0, none⟩ = some (.int .i64 (d : Int)) := cell_of_row _ _ _ _ _ (0, 0) HB1.out.r0
    have c0_1 : w1.cell? ⟨w.heap.size, 1, none⟩ = some (.int .i64 (o : Int)) := cell_of_row _ _ _ _ _ (0, 0) HB1.out.r0
    have c1_0 : w1.cell? ⟨w.heap.size + 1, 0, none⟩ = some (.int .u32 s1) := cell_of_row _ _ _ _ _ (0, 0) HB1.out.r1
    have c1_1 : w1.cell? ⟨w.heap.size + 1, 1, none⟩ = some (.int .u32 s2) := cell_of_row _ _ _ _ _ (0, 0) HB1.out.r1
    have c1_2 : w1.cell? ⟨w.heap.size + 1, 2, none⟩ = some (.int .u32 s3) := cell_of_row _ _ _ _ _ (0, 0) HB1.out.r1
    go_wp2_with fail
    refine (FH.out _).mono ?_
    rintro e w2 ⟨rfl, hb2⟩
    have HB2 := Lib.hid (HB1.out.next hb2)
    clear c0_0 c0_1 c1_0 c1_1 c1_2 hb2 HB1
    go_wp2_with (with_reducible show wpList _ _ _ (Oper.mk _ (.store 38 _ _) _ _ _ _ :: _) _ _; refine Hid.out ?_)
    refine Lib.hid ?_
    have l3_0 : w.heap.size < w2.heap.size := (Array.getElem?_eq_some_iff.1 HB2.out.r0).1
    have l3_1 : w.heap.size + 1 < w2.heap.size := (Array.getElem?_eq_some_iff.1 HB2.out.r1).1
    have l3_2 : w.heap.size + 2 < w2.heap.size := (Array.getElem?_eq_some_iff.1 HB2.out.r2).1
    have lw3 : w.heap.size ≤ w2.heap.size := HB2.out.below.size
    refine wpList_put rfl 38 _ _ rfl w2.heap.size #[.int .i64 0, .int .i64 0, .int .i64 0] _ 38 rfl rfl (heap_alloc_new w2 _) (by kernel_rfl) rfl (by kernel_rfl) ?_
    intro w3 hr3 hg3
    have HB3 : Hid (Bx w [(w2.heap.size, .cells #[.int .i64 0, .int .i64 0, .int .i64 0] 38 (0, 0)), (w.heap.size, .cells #[.int .i64 (d : Int), .int .i64 (o : Int)] 23 (0, 0)), (w.heap.size + 1, .cells #[.int .u32 s1, .int .u32 s2, .int .u32 s3] 30 (0, 0)), (w.heap.size + 2, .cells #[.int .i64 0, .int .i64 0] 23 (0, 0))] w3) := Lib.hid ((HB2.out.make (heap_alloc_new w2 (.cells #[.int .i64 0, .int .i64 0, .int .i64 0] 38)) ((Below.refl w2.heap.size w2).alloc (Nat.le_refl _) _)).put HB2.out.below.size hg3.out hr3.out (by simp only [List.mem_cons, List.not_mem_nil, or_false]; rintro p (rfl | rfl | rfl | rfl) <;> simp <;> omega))
    clear hr3 hg3 HB2
    generalize w2.heap.size = gc at *
    have c0_0 : w3.cell? ⟨gc, 0, none⟩ = some (.int .i64 0) := cell_of_row _ _ _ _ _ (0, 0) HB3.out.r0
    have c0_1 : w3.cell? ⟨gc, 1, none⟩ = some (.int .i64 0) := cell_of_row _ _ _ _ _ (0, 0) HB3.out.r0
    have c0_2 : w3.cell? ⟨gc, 2, none⟩ = some (.int .i64 0) := cell_of_row _ _ _ _ _ (0, 0) HB3.out.r0
    have c1_0 : w3.cell? ⟨w.heap.size, 0, none⟩ = some (.int .i64 (d : Int)) := cell_of_row _ _ _ _ _ (0, 0) HB3.out.r1
    have c1_1 : w3.cell? ⟨w.heap.size, 1, none⟩ = some (.int .i64 (o : Int)) := cell_of_row _ _ _ _ _ (0, 0) HB3.out.r1
    have c2_0 : w3.cell? ⟨w.heap.size + 1, 0, none⟩ = some (.int .u32 s1) := cell_of_row _ _ _ _ _ (0, 0) HB3.out.r2
    have c2_1 : w3.cell? ⟨w.heap.size + 1, 1, none⟩ = some (.int .u32 s2) := cell_of_row _ _ _ _ _ (0, 0) HB3.out.r2
    have c2_2 : w3.cell? ⟨w.heap.size + 1, 2, none⟩ = some (.int .u32 s3) := cell_of_row _ _ _ _ _ (0, 0) HB3.out.r2
    go_wp2_with (with_reducible show wpList _ _ _ (Oper.mk _ (.store 23 _ _) _ _ _ _ :: _) _ _; refine Hid.out ?_)
    refine Lib.hid ?_
    refine wpList_put rfl 23 _ _ rfl (w.heap.size + 2) #[.int .i64 0, .int .i64 0] _ 23 rfl rfl HB3.out.r3 (by kernel_rfl) rfl (by kernel_rfl) ?_
    intro w4 hr4 hg4
    have HB4 : Hid (Bx w [(gc, .cells #[.int .i64 0, .int .i64 0, .int .i64 0] 38 (0, 0)), (w.heap.size, .cells #[.int .i64 (d : Int), .int .i64 (o : Int)] 23 (0, 0)), (w.heap.size + 1, .cells #[.int .u32 s1, .int .u32 s2, .int .u32 s3] 30 (0, 0)), (w.heap.size + 2, .cells #[.int .i64 0, .int .i64 0] 23 (0, 0))] w4) := Lib.hid (HB3.out.put (by omega) hg4.out hr4.out (by simp only [List.mem_cons, List.not_mem_nil, or_false]; rintro p (rfl | rfl | rfl | rfl) <;> simp <;> omega))
    clear c0_0 c0_1 c0_2 c1_0 c1_1 c2_0 c2_1 c2_2 hr4 hg4 HB3
    go_wp2_with fail
    exact bodyPost_ret (results_cell_row Tryd.results18 _ _ _ _ _ (0, 0) _ rfl (HB4.out.r3) Tryd.underlying23 rfl (by kernel_rfl)) rfl (⟨rfl, HB4.out.below⟩)
  · rw [show Cv.moveC 1 = ⟨1, 1, 0⟩ from rfl] at FH
    rw [show nextF q (Cv.moveC 1) = .agg #[.int .i64 1, .int .i64 0] from rfl]
    simp only [Cv.Ch.agg] at FH
    have HZ := Lib.hid True.intro
    have HB0 := Lib.hid (bxs3 w (.cells #[.int .i64 (d : Int), .int .i64 (o : Int)] 23) (.cells #[.int .u32 s1, .int .u32 s2, .int .u32 s3] 30) (.cells #[.int .i64 0, .int .i64 0] 23))
    go_enter Tryd.func18, Tryd.ntmps18
    go_wp2_with fail
    refine (FI.out _).mono ?_
    rintro e w1 ⟨rfl, hb1⟩
    have HB1 := Lib.hid (HB0.out.next hb1)
    clear hb1 HB0
    have c0_0 : w1.cell? ⟨w.heap.size, 0, none⟩ = some (.int .i64 (d : Int)) := cell_of_row _ _ _ _ _ (0, 0) HB1.out.r0
    have c0_1 : w1.cell? ⟨w.heap.size, 1, none⟩ = some (.int .i64 (o : Int)) := cell_of_row _ _ _ _ _ (0, 0) HB1.out.r0
    have c1_0 : w1.cell? ⟨w.heap.size + 1, 0, none⟩ = some (.int .u32 s1) := cell_of_row _ _ _ _ _ (0, 0) HB1.out.r1
    have c1_1 : w1.cell? ⟨w.heap.size + 1, 1, none⟩ = some (.int .u32 s2) := cell_of_row _ _ _ _ _ (0, 0) HB1.out.r1
    have c1_2 : w1.cell? ⟨w.heap.size + 1, 2, none⟩ = some (.int .u32 s3) := cell_of_row _ _ _ _ _ (0, 0) HB1.out.r1
    go_wp2_with fail
    refine (FH.out _).mono ?_
    rintro e w2 ⟨rfl, hb2⟩
    have HB2 := Lib.hid (HB1.out.next hb2)
    clear c0_0 c0_1 c1_0 c1_1 c1_2 hb2 HB1
    go_wp2_with (with_reducible show wpList _ _ _ (Oper.mk _ (.store 38 _ _) _ _ _ _ :: _) _ _; refine Hid.out ?_)
    refine Lib.hid ?_
    have l3_0 : w.heap.size < w2.heap.size := (Array.getElem?_eq_some_iff.1 HB2.out.r0).1
    have l3_1 : w.heap.size + 1 < w2.heap.size := (Array.getElem?_eq_some_iff.1 HB2.out.r1).1
    have l3_2 : w.heap.size + 2 < w2.heap.size := (Array.getElem?_eq_some_iff.1 HB2.out.r2).1
    have lw3 : w.heap.size ≤ w2.heap.size := HB2.out.below.size
    refine wpList_put rfl 38 _ _ rfl w2.heap.size #[.int .i64 1, .int .i64 1, .int .i64 0] _ 38 rfl rfl (heap_alloc_new w2 _) (by kernel_rfl) rfl (by kernel_rfl) ?_
    intro w3 hr3 hg3
    have HB3 : Hid (Bx w [(w2.heap.size, .cells #[.int .i64 1, .int .i64 1, .int .i64 0] 38 (0, 0)), (w.heap.size, .cells #[.int .i64 (d : Int), .int .i64 (o : Int)] 23 (0, 0)), (w.heap.size + 1, .cells #[.int .u32 s1, .int .u32 s2, .int .u32 s3] 30 (0, 0)), (w.heap.size + 2, .cells #[.int .i64 0, .int .i64 0] 23 (0, 0))] w3) := Lib.hid ((HB2.out.make (heap_alloc_new w2 (.cells #[.int .i64 0, .int .i64 0, .int .i64 0] 38)) ((Below.refl w2.heap.size w2).alloc (Nat.le_refl _) _)).put HB2.out.below.size hg3.out hr3.out (by simp only [List.mem_cons, List.not_mem_nil, or_false]; rintro p (rfl | rfl | rfl | rfl) <;> simp <;> omega))
    clear hr3 hg3 HB2
    generalize w2.heap.size = gc at *
    have c0_0 : w3.cell? ⟨gc, 0, none⟩ = some (.int .i64 1) := cell_of_row _ _ _ _ _ (0, 0) HB3.out.r0
    have c0_1 : w3.cell? ⟨gc, 1, none⟩ = some (.int .i64 1) := cell_of_row _ _ _ _ _ (0, 0) HB3.out.r0
    have c0_2 : w3.cell? ⟨gc, 2, none⟩ = some (.int .i64 0) := cell_of_row _ _ _ _ _ (0, 0) HB3.out.r0
    have c1_0 : w3.cell? ⟨w.heap.size, 0, none⟩ = some (.int .i64 (d : Int)) := cell_of_row _ _ _ _ _ (0, 0) HB3.out.r1
    have c1_1 : w3.cell? ⟨w.heap.size, 1, none⟩ = some (.int .i64 (o : Int)) := cell_of_row _ _ _ _ _ (0, 0) HB3.out.r1
    have c2_0 : w3.cell? ⟨w.heap.size + 1, 0, none⟩ = some (.int .u32 s1) := cell_of_row _ _ _ _ _ (0, 0) HB3.out.r2
    have c2_1 : w3.cell? ⟨w.heap.size + 1, 1, none⟩ = some (.int .u32 s2) := cell_of_row _ _ _ _ _ (0, 0) HB3.out.r2
    have c2_2 : w3.cell? ⟨w.heap.size + 1, 2, none⟩ = some (.int .u32 s3) := cell_of_row _ _ _ _ _ (0, 0) HB3.out.r2
    go_wp2_with (with_reducible show wpList _ _ _ (Oper.mk _ (.store 23 _ _) _ _ _ _ :: _) _ _; refine Hid.out ?_)
    refine Lib.hid ?_
    refine wpList_put rfl 23 _ _ rfl (w.heap.size + 2) #[.int .i64 1, .int .i64 0] _ 23 rfl rfl HB3.out.r3 (by kernel_rfl) rfl (by kernel_rfl) ?_
    intro w4 hr4 hg4
    have HB4 : Hid (Bx w [(gc, .cells #[.int .i64 1, .int .i64 1, .int .i64 0] 38 (0, 0)), (w.heap.size, .cells #[.int .i64 (d : Int), .int .i64 (o : Int)] 23 (0, 0)), (w.heap.size + 1, .cells #[.int .u32 s1, .int .u32 s2, .int .u32 s3] 30 (0, 0)), (w.heap.size + 2, .cells #[.int .i64 1, .int .i64 0] 23 (0, 0))] w4) := Lib.hid (HB3.out.put (by omega) hg4.out hr4.out (by simp only [List.mem_cons, List.not_mem_nil, or_false]; rintro p (rfl | rfl | rfl | rfl) <;> simp <;> omega))
    clear c0_0 c0_1 c0_2 c1_0 c1_1 c2_0 c2_1 c2_2 hr4 hg4 HB3
    go_wp2_with fail
    exact bodyPost_ret (results_cell_row Tryd.results18 _ _ _ _ _ (0, 0) _ rfl (HB4.out.r3) Tryd.underlying23 rfl (by kernel_rfl)) rfl (⟨rfl, HB4.out.below⟩)
  · rw [show Cv.moveC 2 = ⟨2, 2, 0⟩ from rfl] at FH
    rw [show nextF q (Cv.moveC 2) = .agg #[.int .i64 2, .int .i64 0] from rfl]
    simp only [Cv.Ch.agg] at FH
    have HZ := Lib.hid True.intro
    have HB0 := Lib.hid (bxs3 w (.cells #[.int .i64 (d : Int), .int .i64 (o : Int)] 23) (.cells #[.int .u32 s1, .int .u32 s2, .int .u32 s3] 30) (.cells #[.int .i64 0, .int .i64 0] 23))
    go_enter Tryd.func18, Tryd.ntmps18
    go_wp2_with fail
    refine (FI.out _).mono ?_
    rintro e w1 ⟨rfl, hb1⟩
    have HB1 := Lib.hid (HB0.out.next hb1)
    clear hb1 HB0
    have c0_0 : w1.cell? ⟨w.heap.size, 0, none⟩ = some (.int .i64 (d : Int)) := cell_of_row _ _ _ _ _ (0, 0) HB1.out.r0
    have c0_1 : w1.cell? ⟨w.heap.size, 1, none⟩ = some (.int .i64 (o : Int)) := cell_of_row _ _ _ _ _ (0, 0) HB1.out.r0
    have c1_0 : w1.cell? ⟨w.heap.size + 1, 0, none⟩ = some (.int .u32 s1) := cell_of_row _ _ _ _ _ (0, 0) HB1.out.r1
    have c1_1 : w1.cell? ⟨w.heap.size + 1, 1, none⟩ = some (.int .u32 s2) := cell_of_row _ _ _ _ _ (0, 0) HB1.out.r1
    have c1_2 : w1.cell? ⟨w.heap.size + 1, 2, none⟩ = some (.int .u32 s3) := cell_of_row _ _ _ _ _ (0, 0) HB1.out.r1
    go_wp2_with fail
    refine (FH.out _).mono ?_
    rintro e w2 ⟨rfl, hb2⟩
    have HB2 := Lib.hid (HB1.out.next hb2)
    clear c0_0 c0_1 c1_0 c1_1 c1_2 hb2 HB1
    go_wp2_with (with_reducible show wpList _ _ _ (Oper.mk _ (.store 38 _ _) _ _ _ _ :: _) _ _; refine Hid.out ?_)
    refine Lib.hid ?_
    have l3_0 : w.heap.size < w2.heap.size := (Array.getElem?_eq_some_iff.1 HB2.out.r0).1
    have l3_1 : w.heap.size + 1 < w2.heap.size := (Array.getElem?_eq_some_iff.1 HB2.out.r1).1
    have l3_2 : w.heap.size + 2 < w2.heap.size := (Array.getElem?_eq_some_iff.1 HB2.out.r2).1
    have lw3 : w.heap.size ≤ w2.heap.size := HB2.out.below.size
    refine wpList_put rfl 38 _ _ rfl w2.heap.size #[.int .i64 2, .int .i64 2, .int .i64 0] _ 38 rfl rfl (heap_alloc_new w2 _) (by kernel_rfl) rfl (by kernel_rfl) ?_
    intro w3 hr3 hg3
    have HB3 : Hid (Bx w [(w2.heap.size, .cells #[.int .i64 2, .int .i64 2, .int .i64 0] 38 (0, 0)), (w.heap.size, .cells #[.int .i64 (d : Int), .int .i64 (o : Int)] 23 (0, 0)), (w.heap.size + 1, .cells #[.int .u32 s1, .int .u32 s2, .int .u32 s3] 30 (0, 0)), (w.heap.size + 2, .cells #[.int .i64 0, .int .i64 0] 23 (0, 0))] w3) := Lib.hid ((HB2.out.make (heap_alloc_new w2 (.cells #[.int .i64 0, .int .i64 0, .int .i64 0] 38)) ((Below.refl w2.heap.size w2).alloc (Nat.le_refl _) _)).put HB2.out.below.size hg3.out hr3.out (by simp only [List.mem_cons, List.not_mem_nil, or_false]; rintro p (rfl | rfl | rfl | rfl) <;> simp <;> omega))
    clear hr3 hg3 HB2
    generalize w2.heap.size = gc at *
    have c0_0 : w3.cell? ⟨gc, 0, none⟩ = some (.int .i64 2) := cell_of_row _ _ _ _ _ (0, 0) HB3.out.r0
    have c0_1 : w3.cell? ⟨gc, 1, none⟩ = some (.int .i64 2) := cell_of_row _ _ _ _ _ (0, 0) HB3.out.r0
    have c0_2 : w3.cell? ⟨gc, 2, none⟩ = some (.int .i64 0) := cell_of_row _ _ _ _ _ (0, 0) HB3.out.r0
    have c1_0 : w3.cell? ⟨w.heap.size, 0, none⟩ = some (.int .i64 (d : Int)) := cell_of_row _ _ _ _ _ (0, 0) HB3.out.r1
    have c1_1 : w3.cell? ⟨w.heap.size, 1, none⟩ = some (.int .i64 (o : Int)) := cell_of_row _ _ _ _ _ (0, 0) HB3.out.r1
    have c2_0 : w3.cell? ⟨w.heap.size + 1, 0, none⟩ = some (.int .u32 s1) := cell_of_row _ _ _ _ _ (0, 0) HB3.out.r2
    have c2_1 : w3.cell? ⟨w.heap.size + 1, 1, none⟩ = some (.int .u32 s2) := cell_of_row _ _ _ _ _ (0, 0) HB3.out.r2
    have c2_2 : w3.cell? ⟨w.heap.size + 1, 2, none⟩ = some (.int .u32 s3) := cell_of_row _ _ _ _ _ (0, 0) HB3.out.r2
    go_wp2_with (with_reducible show wpList _ _ _ (Oper.mk _ (.store 23 _ _) _ _ _ _ :: _) _ _; refine Hid.out ?_)
    refine Lib.hid ?_
    refine wpList_put rfl 23 _ _ rfl (w.heap.size + 2) #[.int .i64 2, .int .i64 0] _ 23 rfl rfl HB3.out.r3 (by kernel_rfl) rfl (by kernel_rfl) ?_
    intro w4 hr4 hg4
    have HB4 : Hid (Bx w [(gc, .cells #[.int .i64 2, .int .i64 2, .int .i64 0] 38 (0, 0)), (w.heap.size, .cells #[.int .i64 (d : Int), .int .i64 (o : Int)] 23 (0, 0)), (w.heap.size + 1, .cells #[.int .u32 s1, .int .u32 s2, .int .u32 s3] 30 (0, 0)), (w.heap.size + 2, .cells #[.int .i64 2, .int .i64 0] 23 (0, 0))] w4) := Lib.hid (HB3.out.put (by omega) hg4.out hr4.out (by simp only [List.mem_cons, List.not_mem_nil, or_false]; rintro p (rfl | rfl | rfl | rfl) <;> simp <;> omega))
    clear c0_0 c0_1 c0_2 c1_0 c1_1 c2_0 c2_1 c2_2 hr4 hg4 HB3
    go_wp2_with fail
    exact bodyPost_ret (results_cell_row Tryd.results18 _ _ _ _ _ (0, 0) _ rfl (HB4.out.r3) Tryd.underlying23 rfl (by kernel_rfl)) rfl (⟨rfl, HB4.out.below⟩)
end Go.Proofs.YteniimbcbjbegaaDoor
