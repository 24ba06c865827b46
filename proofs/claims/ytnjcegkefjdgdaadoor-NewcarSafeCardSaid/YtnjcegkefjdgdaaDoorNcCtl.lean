/- The methods of the tick of a modernised car. No statement of the seat is proved here. -/
import Derived.Test.YtnjcegkefjdgdaaDoorNcLeaf
namespace Go.Proofs.YtnjcegkefjdgdaaDoor
open Go.RowKit
set_option maxRecDepth 4000
set_option linter.unusedSimpArgs false

/-- What is needed of a state's numbers. -/
structure NcS (s : Nc) : Prop where
  sd : 0 ≤ s.sd ∧ s.sd ≤ 2
  so : 0 ≤ s.so ∧ s.so ≤ 7
  ca : s.ca < 4294967296
  il : 0 ≤ s.il ∧ s.il ≤ 1000000
/-- The cells of the building's car. -/
theorem NcW.car {b : BldD} {A : Option Addr} {w : World} (h : NcW b A w) {j : Nat} (hj : j < b.cars.length) : ∃ B off c1 c2 c3 c4 c5 c6 c7 c8 c9, A = some ⟨B, off, none⟩ ∧ Nc.carAt b (j : Int) = ⟨c1, c2, c3, c4, c5, c6, c7, c8, c9⟩ ∧
    Hid (∀ wx, Below w.heap.size w wx → wx.cell? ⟨B, off + j * 9, none⟩ = some (.int .i64 c1) ∧ wx.cell? ⟨B, off + j * 9 + 1, none⟩ = some (.int .i64 c2) ∧ wx.cell? ⟨B, off + j * 9 + 2, none⟩ = some (.int .i64 c3) ∧
      wx.cell? ⟨B, off + j * 9 + 3, none⟩ = some (.int .i64 c4) ∧ wx.cell? ⟨B, off + j * 9 + 4, none⟩ = some (.int .i64 c5) ∧ wx.cell? ⟨B, off + j * 9 + 5, none⟩ = some (.int .i64 c6) ∧
      wx.cell? ⟨B, off + j * 9 + 6, none⟩ = some (.int .i64 c7) ∧ wx.cell? ⟨B, off + j * 9 + 7, none⟩ = some (.int .i64 c8) ∧ wx.cell? ⟨B, off + j * 9 + 8, none⟩ = some (.int .i64 c9)) := by
  obtain ⟨B, off, c1, c2, c3, c4, c5, c6, c7, c8, c9, hA, hB, hcar, m0, m1, m2, m3, m4, m5, m6, m7, m8⟩ := h.cars.at_ hj
  refine ⟨B, off, c1, c2, c3, c4, c5, c6, c7, c8, c9, hA, ?_, fun wx hb => ?_⟩
  · rw [← hcar.out]
    show b.cars.getD j default = _
    simp [List.getD, hj]
  · have hc := fun (i : Nat) => hb.cell (p := ⟨B, i, none⟩) hB
    exact ⟨(hc _).trans m0, (hc _).trans m1, (hc _).trans m2, (hc _).trans m3, (hc _).trans m4, (hc _).trans m5, (hc _).trans m6, (hc _).trans m7, (hc _).trans m8⟩

set_option maxHeartbeats 4000000 in
theorem ncMove_any (b : BldD) (A : Option Addr) (cap : Nat) (k : Int) (x : Fb) (h : Cs) (s : Nc) (m : Int) (w : World) (hw : NcW b A w) :
    Calls Tryd.prog 37 #[tickV b A cap k x h, s.agg, .int .i64 m] w fun ee w' => ee = .returned (.tuple #[(Nc.move b.floors x s m).1.agg, .int .i64 (Nc.move b.floors x s m).2]) ∧ Below w.heap.size w w' := by
  obtain ⟨sd, so, ⟨d1, d2, d3, d4, d5⟩, ⟨m1, m2, m3⟩, ca, sh, il, fa⟩ := s
  have F := Lib.hid (fun wx (hb : Below w.heap.size w wx) => moStep_any b.floors m1 m2 m3 x.fl x.lv x.dd x.bl m wx (hw.tabs.below hb))
  rw [show Nc.move b.floors x ⟨sd, so, ⟨d1, d2, d3, d4, d5⟩, ⟨m1, m2, m3⟩, ca, sh, il, fa⟩ m = (⟨sd, so, ⟨d1, d2, d3, d4, d5⟩, (Mo.stepF b.floors ⟨m1, m2, m3⟩ x.fl x.lv m).1, ca, sh, il, fa⟩, (Mo.stepF b.floors ⟨m1, m2, m3⟩ x.fl x.lv m).2.1) from rfl]
  generalize Mo.stepF b.floors ⟨m1, m2, m3⟩ x.fl x.lv m = t at *
  obtain ⟨⟨n1, n2, n3⟩, n4, n5⟩ := t
  clear hw
  obtain ⟨f, d, r, pk, e1, e2, e3, cs⟩ := b
  obtain ⟨fl, lv, dd, bl⟩ := x
  obtain ⟨hu, hd⟩ := h
  simp only [tickV, Nc.agg, BldD.agg, Fb.agg, Dr.agg, Mo.agg, Cs.agg] at *
  have HB0 := Lib.hid (bxs3 w (.cells #[.int .i64 f, .int .i64 d, .int .i64 r, .int .i64 pk, .float .f64 e1, .float .f64 e2, .float .f64 e3, .slice A cs.length cap, .int .i64 k, .int .i64 fl, .bool lv, .int .i64 dd, .bool bl, .int .u32 hu, .int .u32 hd] 67) (.cells #[.int .i64 sd, .int .i64 so, .int .i64 d1, .int .i64 d2, .int .i64 d3, .bool d4, .int .i64 d5, .int .i64 m1, .int .i64 m2, .int .i64 m3, .int .u32 ca, .int .i64 sh, .int .i64 il, .bool fa] 38) (.cells #[.int .i64 0, .int .i64 0, .int .i64 0, .int .i64 0, .int .i64 0, .bool false, .int .i64 0, .int .i64 0, .int .i64 0, .int .i64 0, .int .u32 0, .int .i64 0, .int .i64 0, .bool false] 38))
  go_enter Tryd.func37, Tryd.ntmps37
  go_wp2_with fail
  refine (F.out _ HB0.out.below).mono ?_
  rintro e w1 ⟨rfl, hb1⟩
  have HB1 := Lib.hid (HB0.out.next hb1)
  clear hb1 HB0
  obtain ⟨c0_0, -, -, -, -, -, -, -, -, c0_9, c0_10, c0_11, c0_12, -⟩ := row15 (b := w.heap.size) HB1.out.r0
  obtain ⟨c1_0, c1_1, c1_2, c1_3, c1_4, c1_5, c1_6, c1_7, c1_8, c1_9, c1_10, c1_11, c1_12, c1_13⟩ := row14 (b := w.heap.size + 1) HB1.out.r1
  go_wp2_with (with_reducible show wpList _ _ _ (Oper.mk _ (.store 35 _ _) _ _ _ _ :: _) _ _; refine Hid.out ?_)
  refine Lib.hid ?_
  refine wpList_putPart rfl 35 _ _ rfl (w.heap.size + 1) 7 #[.int .i64 n1, .int .i64 n2, .int .i64 n3] _ #[.int .i64 sd, .int .i64 so, .int .i64 d1, .int .i64 d2, .int .i64 d3, .bool d4, .int .i64 d5, .int .i64 n1, .int .i64 n2, .int .i64 n3, .int .u32 ca, .int .i64 sh, .int .i64 il, .bool fa] 38 rfl rfl HB1.out.r1 (by kernel_rfl) (by simp) (by kernel_rfl) rfl ?_
  intro w2 hr2 hg2
  have HB2 : Hid (Bx w [(w.heap.size, .cells #[.int .i64 f, .int .i64 d, .int .i64 r, .int .i64 pk, .float .f64 e1, .float .f64 e2, .float .f64 e3, .slice A cs.length cap, .int .i64 k, .int .i64 fl, .bool lv, .int .i64 dd, .bool bl, .int .u32 hu, .int .u32 hd] 67 (0, 0)), (w.heap.size + 1, .cells #[.int .i64 sd, .int .i64 so, .int .i64 d1, .int .i64 d2, .int .i64 d3, .bool d4, .int .i64 d5, .int .i64 n1, .int .i64 n2, .int .i64 n3, .int .u32 ca, .int .i64 sh, .int .i64 il, .bool fa] 38 (0, 0)), (w.heap.size + 2, .cells #[.int .i64 0, .int .i64 0, .int .i64 0, .int .i64 0, .int .i64 0, .bool false, .int .i64 0, .int .i64 0, .int .i64 0, .int .i64 0, .int .u32 0, .int .i64 0, .int .i64 0, .bool false] 38 (0, 0))] w2) := Lib.hid (HB1.out.put (by omega) hg2.out hr2.out (by simp only [List.mem_cons, List.not_mem_nil, or_false]; rintro p (rfl | rfl | rfl) <;> simp <;> omega))
  clear c0_0 c0_9 c0_10 c0_11 c0_12 c1_0 c1_1 c1_2 c1_3 c1_4 c1_5 c1_6 c1_7 c1_8 c1_9 c1_10 c1_11 c1_12 c1_13 hr2 hg2 HB1
  obtain ⟨c0_0, -, -, -, -, -, -, -, -, c0_9, c0_10, c0_11, c0_12, -⟩ := row15 (b := w.heap.size) HB2.out.r0
  obtain ⟨c1_0, c1_1, c1_2, c1_3, c1_4, c1_5, c1_6, c1_7, c1_8, c1_9, c1_10, c1_11, c1_12, c1_13⟩ := row14 (b := w.heap.size + 1) HB2.out.r1
  go_wp2_with (with_reducible show wpList _ _ _ (Oper.mk _ (.store 38 _ _) _ _ _ _ :: _) _ _; refine Hid.out ?_)
  refine Lib.hid ?_
  refine wpList_put rfl 38 _ _ rfl (w.heap.size + 2) #[.int .i64 sd, .int .i64 so, .int .i64 d1, .int .i64 d2, .int .i64 d3, .bool d4, .int .i64 d5, .int .i64 n1, .int .i64 n2, .int .i64 n3, .int .u32 ca, .int .i64 sh, .int .i64 il, .bool fa] _ 38 rfl rfl HB2.out.r2 (by kernel_rfl) rfl (by kernel_rfl) ?_
  intro w3 hr3 hg3
  have HB3 : Hid (Bx w [(w.heap.size, .cells #[.int .i64 f, .int .i64 d, .int .i64 r, .int .i64 pk, .float .f64 e1, .float .f64 e2, .float .f64 e3, .slice A cs.length cap, .int .i64 k, .int .i64 fl, .bool lv, .int .i64 dd, .bool bl, .int .u32 hu, .int .u32 hd] 67 (0, 0)), (w.heap.size + 1, .cells #[.int .i64 sd, .int .i64 so, .int .i64 d1, .int .i64 d2, .int .i64 d3, .bool d4, .int .i64 d5, .int .i64 n1, .int .i64 n2, .int .i64 n3, .int .u32 ca, .int .i64 sh, .int .i64 il, .bool fa] 38 (0, 0)), (w.heap.size + 2, .cells #[.int .i64 sd, .int .i64 so, .int .i64 d1, .int .i64 d2, .int .i64 d3, .bool d4, .int .i64 d5, .int .i64 n1, .int .i64 n2, .int .i64 n3, .int .u32 ca, .int .i64 sh, .int .i64 il, .bool fa] 38 (0, 0))] w3) := Lib.hid (HB2.out.put (by omega) hg3.out hr3.out (by simp only [List.mem_cons, List.not_mem_nil, or_false]; rintro p (rfl | rfl | rfl) <;> simp <;> omega))
  clear c0_0 c0_9 c0_10 c0_11 c0_12 c1_0 c1_1 c1_2 c1_3 c1_4 c1_5 c1_6 c1_7 c1_8 c1_9 c1_10 c1_11 c1_12 c1_13 hr3 hg3 HB2
  go_wp2_with fail
  exact bodyPost_ret (results_row_tmp Tryd.results37 _ _ _ _ _ (0, 0) _ rfl HB3.out.r2 Tryd.underlying38 rfl (by kernel_rfl)) rfl (⟨rfl, HB3.out.below⟩)
set_option maxHeartbeats 4000000 in
theorem turnDoor_any (b : BldD) (A : Option Addr) (cap : Nat) (k : Int) (x : Fb) (h : Cs) (s : Nc) (wt : Bool) (w : World) (hw : NcW b A w) (hg : NcG b k x h) :
    Calls Tryd.prog 55 #[tickV b A cap k x h, s.agg, .bool wt] w fun ee w' => ee = .returned (.tuple #[(Nc.turnDoor (Nc.carAt b k) x s wt).1.agg, .int .i64 (Nc.turnDoor (Nc.carAt b k) x s wt).2]) ∧ Below w.heap.size w w' := by
  have hk := hg.car
  obtain ⟨j, rfl⟩ := Int.eq_ofNat_of_zero_le hk.1
  obtain ⟨B, off, c1, c2, c3, c4, c5, c6, c7, c8, c9, rfl, hcar, HKC⟩ := hw.car (show j < b.cars.length by omega)
  rw [hcar]
  clear hcar hw hg
  obtain ⟨sd, so, ⟨d1, d2, d3, d4, d5⟩, ⟨m1, m2, m3⟩, ca, sh, il, fa⟩ := s
  have F := Lib.hid (fun wx => step_any c1 c2 c3 c4 c5 c6 c7 c8 c9 d1 d2 d3 d4 d5 x.dd x.bl wt wx)
  rw [show Nc.turnDoor ⟨c1, c2, c3, c4, c5, c6, c7, c8, c9⟩ x ⟨sd, so, ⟨d1, d2, d3, d4, d5⟩, ⟨m1, m2, m3⟩, ca, sh, il, fa⟩ wt = (⟨sd, so, (Dr.stepF c7 c8 ⟨d1, d2, d3, d4, d5⟩ x.dd x.bl wt).1, ⟨m1, m2, m3⟩, ca, sh, 0, fa⟩, (Dr.stepF c7 c8 ⟨d1, d2, d3, d4, d5⟩ x.dd x.bl wt).2) from rfl]
  generalize Dr.stepF c7 c8 ⟨d1, d2, d3, d4, d5⟩ x.dd x.bl wt = t at *
  obtain ⟨⟨n1, n2, n3, n4, n5⟩, n6⟩ := t
  obtain ⟨f, d, r, pk, e1, e2, e3, cs⟩ := b
  obtain ⟨fl, lv, dd, bl⟩ := x
  obtain ⟨hu, hd⟩ := h
  simp only [tickV, Nc.agg, BldD.agg, Fb.agg, Dr.agg, Mo.agg, Cs.agg] at *
  obtain ⟨hk0, hk1⟩ := hk
  have HB0 := Lib.hid (bxs3 w (.cells #[.int .i64 f, .int .i64 d, .int .i64 r, .int .i64 pk, .float .f64 e1, .float .f64 e2, .float .f64 e3, .slice (some ⟨B, off, none⟩) cs.length cap, .int .i64 (j : Int), .int .i64 fl, .bool lv, .int .i64 dd, .bool bl, .int .u32 hu, .int .u32 hd] 67) (.cells #[.int .i64 sd, .int .i64 so, .int .i64 d1, .int .i64 d2, .int .i64 d3, .bool d4, .int .i64 d5, .int .i64 m1, .int .i64 m2, .int .i64 m3, .int .u32 ca, .int .i64 sh, .int .i64 il, .bool fa] 38) (.cells #[.int .i64 0, .int .i64 0, .int .i64 0, .int .i64 0, .int .i64 0, .bool false, .int .i64 0, .int .i64 0, .int .i64 0, .int .i64 0, .int .u32 0, .int .i64 0, .int .i64 0, .bool false] 38))
  go_enter Tryd.func55, Tryd.ntmps55
  go_wp2_with fail
  generalize hWW : ((w.alloc _).alloc _).alloc _ = W1 at *
  clear hWW
  go_wp2_with fail
  have q0 : w.heap.size < W1.heap.size := (Array.getElem?_eq_some_iff.1 HB0.out.r0).1
  have q1 : w.heap.size + 1 < W1.heap.size := (Array.getElem?_eq_some_iff.1 HB0.out.r1).1
  have q2 : w.heap.size + 2 < W1.heap.size := (Array.getElem?_eq_some_iff.1 HB0.out.r2).1
  refine Ghost.ghost (fun γ L wx => Decls (W1).heap.size (W1) [(⟨20, 21, 33, #[.int .i64 0, .int .i64 0, .int .i64 0, .bool false, .int .i64 0], #[.int .i64 n1, .int .i64 n2, .int .i64 n3, .bool n4, .int .i64 n5]⟩ : Decl)] γ L wx) (by kernel_rfl) (by kernel_rfl) (fun γ => Decls.start _ γ (Below.refl _ _).drew (Nat.le_refl _)) ?_
  iterate 20
    apply Ghost.walk_const (fun γ => by rfl)
    · intro γ L wx h1 h2 hx K hK
      have HXx := HB0.out.next hx.below
      obtain ⟨-, -, -, -, -, -, -, z0_7, z0_8, -, -, z0_11, z0_12, -⟩ := row15 (b := w.heap.size) HXx.r0
      obtain ⟨-, -, z1_2, z1_3, z1_4, z1_5, z1_6, -⟩ := row14 (b := w.heap.size + 1) HXx.r1
      obtain ⟨k0, k1, k2, k3, k4, k5, k6, k7, k8⟩ := HKC.out wx HXx.below
      have HK2 := Lib.hid hK
      have HX := Lib.hid hx
      clear hK h1 h2 hx
      go_simp
      first
        | (go_at_call 66; (with_reducible refine (F.out _).mono ?_); rintro e x1 ⟨rfl, hb⟩; exact HK2.out _ (HX.out.quiet 0 (by rfl) hb))
        | exact HK2.out _ (HX.out.quiet 0 (by rfl) (Below.refl _ _))
    simp only [Act.put, List.setIfInBounds_toArray, List.set_cons_succ, List.set_cons_zero]
  refine Ghost.walk_yes (fun b => .pointer (some ⟨b, 0, none⟩)) (fun γ => by rfl) ?_ ?_
  · intro γ L wx h1 h2 hx K hK
    have HK2 := Lib.hid hK
    clear hK h2
    have hL : L (⟨20, 21, 33, #[.int .i64 0, .int .i64 0, .int .i64 0, .bool false, .int .i64 0], #[.int .i64 n1, .int .i64 n2, .int .i64 n3, .bool n4, .int .i64 n5]⟩ : Decl).al = false := h1
    clear h1
    go_simp
    exact HK2.out wx.heap.size _ (hx.alloc (⟨20, 21, 33, #[.int .i64 0, .int .i64 0, .int .i64 0, .bool false, .int .i64 0], #[.int .i64 n1, .int .i64 n2, .int .i64 n3, .bool n4, .int .i64 n5]⟩ : Decl) (decl_mem _) hL (by rfl) (decl_al _))
  simp only [Act.put, List.setIfInBounds_toArray, List.set_cons_succ, List.set_cons_zero]
  refine Ghost.walk_yes (fun _ => undef) (fun γ => by rfl) ?_ ?_
  · intro γ L wx h1 h2 hx K hK
    have hA : L (⟨20, 21, 33, #[.int .i64 0, .int .i64 0, .int .i64 0, .bool false, .int .i64 0], #[.int .i64 n1, .int .i64 n2, .int .i64 n3, .bool n4, .int .i64 n5]⟩ : Decl).al = true := h2 20 (by kernel_rfl)
    exact hx.wp_store (⟨20, 21, 33, #[.int .i64 0, .int .i64 0, .int .i64 0, .bool false, .int .i64 0], #[.int .i64 n1, .int .i64 n2, .int .i64 n3, .bool n4, .int .i64 n5]⟩ : Decl) (decl_mem _) h1 hA _ _ rfl rfl rfl (by kernel_rfl) rfl (by kernel_rfl) (hK 0 _ (hx.store (⟨20, 21, 33, #[.int .i64 0, .int .i64 0, .int .i64 0, .bool false, .int .i64 0], #[.int .i64 n1, .int .i64 n2, .int .i64 n3, .bool n4, .int .i64 n5]⟩ : Decl) (decl_mem _) hA (by rfl) (decl_st _) (decl_al _) 0))
  simp only [Act.put]
  apply Ghost.walk_const (fun γ => by rfl)
  · intro γ L wx h1 h2 hx K hK
    have HXx := HB0.out.next hx.below
    obtain ⟨-, -, -, -, -, -, -, z0_7, z0_8, -, -, z0_11, z0_12, -⟩ := row15 (b := w.heap.size) HXx.r0
    obtain ⟨-, -, z1_2, z1_3, z1_4, z1_5, z1_6, -⟩ := row14 (b := w.heap.size + 1) HXx.r1
    obtain ⟨k0, k1, k2, k3, k4, k5, k6, k7, k8⟩ := HKC.out wx HXx.below
    have HK2 := Lib.hid hK
    have HX := Lib.hid hx
    clear hK h1 h2 hx
    go_simp
    first
      | (go_at_call 66; (with_reducible refine (F.out _).mono ?_); rintro e x1 ⟨rfl, hb⟩; exact HK2.out _ (HX.out.quiet 0 (by rfl) hb))
      | exact HK2.out _ (HX.out.quiet 0 (by rfl) (Below.refl _ _))
  simp only [Act.put, List.setIfInBounds_toArray, List.set_cons_succ, List.set_cons_zero]
  refine Ghost.walk_nil (fun γ L w1 hall hD => ?_)
  obtain ⟨hd1, hr1, hb1⟩ := hD.done1 hall (by show 20 < 23; decide) (by show 21 < 23; decide)
  clear hall hD
  simp only [Nat.zero_add, Nat.reduceAdd] at hd1 hr1 ⊢
  generalize γ 20 = gd at *
  have HB1 := Lib.hid (HB0.out.make hr1 hb1)
  have l1_0 : w.heap.size < gd := by omega
  have l1_1 : w.heap.size + 1 < gd := by omega
  have l1_2 : w.heap.size + 2 < gd := by omega
  have lw1 : w.heap.size ≤ gd := by have := HB0.out.below.size; omega
  clear hd1 hr1 hb1 HB0 q0 q1 q2
  obtain ⟨c0_0, c0_1, c0_2, c0_3, c0_4⟩ := row5 (b := gd) HB1.out.r0
  obtain ⟨c2_0, c2_1, c2_2, c2_3, c2_4, c2_5, c2_6, c2_7, c2_8, c2_9, c2_10, c2_11, c2_12, c2_13⟩ := row14 (b := w.heap.size + 1) HB1.out.r2
  go_wp2_with (with_reducible show wpList _ _ _ (Oper.mk _ (.store 33 _ _) _ _ _ _ :: _) _ _; refine Hid.out ?_)
  refine Lib.hid ?_
  refine wpList_putPart rfl 33 _ _ rfl (w.heap.size + 1) 2 #[.int .i64 n1, .int .i64 n2, .int .i64 n3, .bool n4, .int .i64 n5] _ #[.int .i64 sd, .int .i64 so, .int .i64 n1, .int .i64 n2, .int .i64 n3, .bool n4, .int .i64 n5, .int .i64 m1, .int .i64 m2, .int .i64 m3, .int .u32 ca, .int .i64 sh, .int .i64 il, .bool fa] 38 rfl rfl HB1.out.r2 (by kernel_rfl) (by simp) (by kernel_rfl) rfl ?_
  intro w2 hr2 hg2
  have HB2 : Hid (Bx w [(gd, .cells #[.int .i64 n1, .int .i64 n2, .int .i64 n3, .bool n4, .int .i64 n5] 33 (0, 0)), (w.heap.size, .cells #[.int .i64 f, .int .i64 d, .int .i64 r, .int .i64 pk, .float .f64 e1, .float .f64 e2, .float .f64 e3, .slice (some ⟨B, off, none⟩) cs.length cap, .int .i64 (j : Int), .int .i64 fl, .bool lv, .int .i64 dd, .bool bl, .int .u32 hu, .int .u32 hd] 67 (0, 0)), (w.heap.size + 1, .cells #[.int .i64 sd, .int .i64 so, .int .i64 n1, .int .i64 n2, .int .i64 n3, .bool n4, .int .i64 n5, .int .i64 m1, .int .i64 m2, .int .i64 m3, .int .u32 ca, .int .i64 sh, .int .i64 il, .bool fa] 38 (0, 0)), (w.heap.size + 2, .cells #[.int .i64 0, .int .i64 0, .int .i64 0, .int .i64 0, .int .i64 0, .bool false, .int .i64 0, .int .i64 0, .int .i64 0, .int .i64 0, .int .u32 0, .int .i64 0, .int .i64 0, .bool false] 38 (0, 0))] w2) := Lib.hid (HB1.out.put (by omega) hg2.out hr2.out (by simp only [List.mem_cons, List.not_mem_nil, or_false]; rintro p (rfl | rfl | rfl | rfl) <;> simp <;> omega))
  clear c0_0 c0_1 c0_2 c0_3 c0_4 c2_0 c2_1 c2_2 c2_3 c2_4 c2_5 c2_6 c2_7 c2_8 c2_9 c2_10 c2_11 c2_12 c2_13 hr2 hg2 HB1
  obtain ⟨c0_0, c0_1, c0_2, c0_3, c0_4⟩ := row5 (b := gd) HB2.out.r0
  obtain ⟨c2_0, c2_1, c2_2, c2_3, c2_4, c2_5, c2_6, c2_7, c2_8, c2_9, c2_10, c2_11, c2_12, c2_13⟩ := row14 (b := w.heap.size + 1) HB2.out.r2
  go_wp2_with (with_reducible show wpList _ _ _ (Oper.mk _ (.store 3 _ _) _ _ _ _ :: _) _ _; refine Hid.out ?_)
  refine Lib.hid ?_
  refine wpList_putCell rfl 3 _ _ rfl (w.heap.size + 1) 12 (.int .i64 0) _ _ 38 rfl rfl HB2.out.r2 (by kernel_rfl) (by simp) rfl rfl rfl ?_
  intro w3 hr3 hg3
  have HB3 : Hid (Bx w [(gd, .cells #[.int .i64 n1, .int .i64 n2, .int .i64 n3, .bool n4, .int .i64 n5] 33 (0, 0)), (w.heap.size, .cells #[.int .i64 f, .int .i64 d, .int .i64 r, .int .i64 pk, .float .f64 e1, .float .f64 e2, .float .f64 e3, .slice (some ⟨B, off, none⟩) cs.length cap, .int .i64 (j : Int), .int .i64 fl, .bool lv, .int .i64 dd, .bool bl, .int .u32 hu, .int .u32 hd] 67 (0, 0)), (w.heap.size + 1, .cells #[.int .i64 sd, .int .i64 so, .int .i64 n1, .int .i64 n2, .int .i64 n3, .bool n4, .int .i64 n5, .int .i64 m1, .int .i64 m2, .int .i64 m3, .int .u32 ca, .int .i64 sh, .int .i64 0, .bool fa] 38 (0, 0)), (w.heap.size + 2, .cells #[.int .i64 0, .int .i64 0, .int .i64 0, .int .i64 0, .int .i64 0, .bool false, .int .i64 0, .int .i64 0, .int .i64 0, .int .i64 0, .int .u32 0, .int .i64 0, .int .i64 0, .bool false] 38 (0, 0))] w3) := Lib.hid (HB2.out.put (by omega) hg3.out hr3.out (by simp only [List.mem_cons, List.not_mem_nil, or_false]; rintro p (rfl | rfl | rfl | rfl) <;> simp <;> omega))
  clear c0_0 c0_1 c0_2 c0_3 c0_4 c2_0 c2_1 c2_2 c2_3 c2_4 c2_5 c2_6 c2_7 c2_8 c2_9 c2_10 c2_11 c2_12 c2_13 hr3 hg3 HB2
  obtain ⟨c0_0, c0_1, c0_2, c0_3, c0_4⟩ := row5 (b := gd) HB3.out.r0
  obtain ⟨c2_0, c2_1, c2_2, c2_3, c2_4, c2_5, c2_6, c2_7, c2_8, c2_9, c2_10, c2_11, c2_12, c2_13⟩ := row14 (b := w.heap.size + 1) HB3.out.r2
  go_wp2_with (with_reducible show wpList _ _ _ (Oper.mk _ (.store 38 _ _) _ _ _ _ :: _) _ _; refine Hid.out ?_)
  refine Lib.hid ?_
  refine wpList_put rfl 38 _ _ rfl (w.heap.size + 2) #[.int .i64 sd, .int .i64 so, .int .i64 n1, .int .i64 n2, .int .i64 n3, .bool n4, .int .i64 n5, .int .i64 m1, .int .i64 m2, .int .i64 m3, .int .u32 ca, .int .i64 sh, .int .i64 0, .bool fa] _ 38 rfl rfl HB3.out.r3 (by kernel_rfl) rfl (by kernel_rfl) ?_
  intro w4 hr4 hg4
  have HB4 : Hid (Bx w [(gd, .cells #[.int .i64 n1, .int .i64 n2, .int .i64 n3, .bool n4, .int .i64 n5] 33 (0, 0)), (w.heap.size, .cells #[.int .i64 f, .int .i64 d, .int .i64 r, .int .i64 pk, .float .f64 e1, .float .f64 e2, .float .f64 e3, .slice (some ⟨B, off, none⟩) cs.length cap, .int .i64 (j : Int), .int .i64 fl, .bool lv, .int .i64 dd, .bool bl, .int .u32 hu, .int .u32 hd] 67 (0, 0)), (w.heap.size + 1, .cells #[.int .i64 sd, .int .i64 so, .int .i64 n1, .int .i64 n2, .int .i64 n3, .bool n4, .int .i64 n5, .int .i64 m1, .int .i64 m2, .int .i64 m3, .int .u32 ca, .int .i64 sh, .int .i64 0, .bool fa] 38 (0, 0)), (w.heap.size + 2, .cells #[.int .i64 sd, .int .i64 so, .int .i64 n1, .int .i64 n2, .int .i64 n3, .bool n4, .int .i64 n5, .int .i64 m1, .int .i64 m2, .int .i64 m3, .int .u32 ca, .int .i64 sh, .int .i64 0, .bool fa] 38 (0, 0))] w4) := Lib.hid (HB3.out.put (by omega) hg4.out hr4.out (by simp only [List.mem_cons, List.not_mem_nil, or_false]; rintro p (rfl | rfl | rfl | rfl) <;> simp <;> omega))
  clear c0_0 c0_1 c0_2 c0_3 c0_4 c2_0 c2_1 c2_2 c2_3 c2_4 c2_5 c2_6 c2_7 c2_8 c2_9 c2_10 c2_11 c2_12 c2_13 hr4 hg4 HB3
  go_wp2_with fail
  exact bodyPost_ret (results_row_tmp Tryd.results55 _ _ _ _ _ (0, 0) _ rfl HB4.out.r3 Tryd.underlying38 rfl (by kernel_rfl)) rfl (⟨rfl, HB4.out.below⟩)
end Go.Proofs.YtnjcegkefjdgdaaDoor
