/- The choice: a function for each direction. No statement of the seat is proved here. -/
import Derived.Test.YtnjcegkefjdgdaaDoorCvNear
import Derived.Test.YtnjcegkefjdgdaaDoorG8
namespace Go.Proofs.YtnjcegkefjdgdaaDoor
open Go.RowKit

theorem nearP_lt (ab be : Nat) : nearP ab be < 3 := by
  unfold nearP
  split
  · decide
  split <;> decide
theorem lit3_lt {w wx : World} {o : Obj} (h : Below (w.heap.size + 2) ((w.alloc o).alloc (.cells #[.int .i64 0, .int .i64 0, .int .i64 0] 107)) wx) : wx.heap[w.heap.size + 1]? = some (.cells #[.int .i64 0, .int .i64 0, .int .i64 0] 107 (0, 0)) := by
  refine (h.block _ (by omega)).trans ?_
  have := heap_alloc_new (w.alloc o) (.cells #[.int .i64 0, .int .i64 0, .int .i64 0] 107)
  simpa using this
theorem box2a {w wx : World} {A B : Obj} (h : Below (w.heap.size + 2) ((w.alloc A).alloc B) wx) : wx.heap[w.heap.size]? = some A :=
  (h.block _ (by omega)).trans ((Below.heap_alloc (w.alloc A) B w.heap.size (by simp)).trans (heap_alloc_new w A))
theorem box2c {w wx : World} {A B : Obj} (h : Below (w.heap.size + 2) ((w.alloc A).alloc B) wx) : Below w.heap.size w wx :=
  (((Below.refl w.heap.size w).alloc (Nat.le_refl _) A).alloc (by simp) B).trans (h.mono (by omega))
theorem put_back {w wx w2 : World} {A B : Obj} (h : Below (w.heap.size + 2) ((w.alloc A).alloc B) wx) (h2 : Below (w.heap.size + 1) wx w2) : Below w.heap.size w w2 :=
  (box2c h).trans (h2.mono (by omega))
theorem box_le {w wx : World} {A B : Obj} (h : Below (w.heap.size + 2) ((w.alloc A).alloc B) wx) (hz : ((w.alloc A).alloc B).heap.size = w.heap.size + 2) : w.heap.size + 2 ≤ wx.heap.size := by
  have := h.size
  omega

set_option maxHeartbeats 4000000 in
theorem swDn_any (p : Pl) (w : World) (hp : p.ok) (hT : Tabs w) :
    Calls Tryd.prog 81 #[p.agg] w fun e w' => e = .returned (Cv.swDn p.sc).agg ∧ Below w.heap.size w w' := by
  have FO := Lib.hid (fun k wx => openC_any k wx)
  have FM := Lib.hid (fun k (hk : k < 3) wx (hb : Below w.heap.size w wx) => moveC_any k hk wx (hT.below hb))
  have FF := Lib.hid (fun wx => first_any p 2 1 wx (.inr rfl) (.inl rfl))
  have hD : Cv.swDn p.sc = if (p.car || p.dn) = true then Cv.openC (Cv.first p.sc 2 1) else if (!decide (p.be = 0)) = true then Cv.moveC 2 else if p.up = true then Cv.openC 1 else if (!decide (p.ab = 0)) = true then Cv.moveC 1 else Cv.moveC 0 := rfl
  rw [hD]
  clear hD
  generalize Cv.first p.sc 2 1 = q at *
  obtain ⟨o, ⟨s1, s2, s3⟩, car, up, dn, ab, be⟩ := p
  have ha := int_ne0 ab
  have hb := int_ne0 be
  simp only [Pl.agg] at *
  generalize decide (ab = 0) = a at *
  generalize decide (be = 0) = b at *
  clear hT hp
  cases car
  case true =>
    go_enter Tryd.func81, Tryd.ntmps81
    have HB0 : Hid (Below (w.heap.size + 2) ((w.alloc (.cells #[.int .i64 (o : Int), .int .u32 s1, .int .u32 s2, .int .u32 s3, .bool true, .bool up, .bool dn, .int .u32 ab, .int .u32 be] 120)).alloc (.cells #[.int .i64 0, .int .i64 0, .int .i64 0] 107)) ((w.alloc (.cells #[.int .i64 (o : Int), .int .u32 s1, .int .u32 s2, .int .u32 s3, .bool true, .bool up, .bool dn, .int .u32 ab, .int .u32 be] 120)).alloc (.cells #[.int .i64 0, .int .i64 0, .int .i64 0] 107))) := Lib.hid (Below.refl _ _)
    have hz : ((w.alloc (.cells #[.int .i64 (o : Int), .int .u32 s1, .int .u32 s2, .int .u32 s3, .bool true, .bool up, .bool dn, .int .u32 ab, .int .u32 be] 120)).alloc (.cells #[.int .i64 0, .int .i64 0, .int .i64 0] 107)).heap.size = w.heap.size + 2 := by simp
    go_wp2_with fail
    refine (FF.out _).mono ?_
    rintro e w1 ⟨rfl, hb1⟩
    have HB1 := Lib.hid (HB0.out.trans (hb1.mono (by omega)))
    clear hb1
    obtain ⟨c0, c1, c2, c3, c4, c5, c6, c7, c8⟩ := plRow (box2a HB1.out)
    go_wp2_with fail
    refine (FO.out q _).mono ?_
    rintro e w2 ⟨rfl, hb2⟩
    have HB2 := Lib.hid (HB1.out.trans (hb2.mono (box_le HB1.out hz)))
    clear hb2
    have hr := lit3_lt HB2.out
    go_wp2_with (with_reducible show wpList _ _ _ (Oper.mk _ (.store 107 _ _) _ _ _ _ :: _) _ _; refine wpList_put rfl 107 _ _ rfl (w.heap.size + 1) #[.int .i64 ((3 : Nat) : Int), .int .i64 ((q : Nat) : Int), .int .i64 ((q : Nat) : Int)] _ 107 rfl rfl hr (by kernel_rfl) rfl (by kernel_rfl) ?_; intro w9 hr9 hg9; refine Hid.out ?_)
    have hfin := put_back HB2.out ((Below.refl (w.heap.size + 1) w2).grown hg9.out (Nat.le_trans (Nat.le_succ _) (box_le HB2.out hz)) (fun k hk => Nat.le_of_eq (Option.some.inj hk)))
    refine Lib.hid ?_
    go_wp2_with fail
    exact bodyPost_ret (results_cell_row Tryd.results81 _ _ _ _ _ (0, 0) _ rfl (hr9.out) Tryd.underlying107 rfl (by kernel_rfl)) rfl (⟨rfl, hfin⟩)
  cases dn
  case true =>
    go_enter Tryd.func81, Tryd.ntmps81
    have HB0 : Hid (Below (w.heap.size + 2) ((w.alloc (.cells #[.int .i64 (o : Int), .int .u32 s1, .int .u32 s2, .int .u32 s3, .bool false, .bool up, .bool true, .int .u32 ab, .int .u32 be] 120)).alloc (.cells #[.int .i64 0, .int .i64 0, .int .i64 0] 107)) ((w.alloc (.cells #[.int .i64 (o : Int), .int .u32 s1, .int .u32 s2, .int .u32 s3, .bool false, .bool up, .bool true, .int .u32 ab, .int .u32 be] 120)).alloc (.cells #[.int .i64 0, .int .i64 0, .int .i64 0] 107))) := Lib.hid (Below.refl _ _)
    have hz : ((w.alloc (.cells #[.int .i64 (o : Int), .int .u32 s1, .int .u32 s2, .int .u32 s3, .bool false, .bool up, .bool true, .int .u32 ab, .int .u32 be] 120)).alloc (.cells #[.int .i64 0, .int .i64 0, .int .i64 0] 107)).heap.size = w.heap.size + 2 := by simp
    go_wp2_with fail
    refine (FF.out _).mono ?_
    rintro e w1 ⟨rfl, hb1⟩
    have HB1 := Lib.hid (HB0.out.trans (hb1.mono (by omega)))
    clear hb1
    obtain ⟨c0, c1, c2, c3, c4, c5, c6, c7, c8⟩ := plRow (box2a HB1.out)
    go_wp2_with fail
    refine (FO.out q _).mono ?_
    rintro e w2 ⟨rfl, hb2⟩
    have HB2 := Lib.hid (HB1.out.trans (hb2.mono (box_le HB1.out hz)))
    clear hb2
    have hr := lit3_lt HB2.out
    go_wp2_with (with_reducible show wpList _ _ _ (Oper.mk _ (.store 107 _ _) _ _ _ _ :: _) _ _; refine wpList_put rfl 107 _ _ rfl (w.heap.size + 1) #[.int .i64 ((3 : Nat) : Int), .int .i64 ((q : Nat) : Int), .int .i64 ((q : Nat) : Int)] _ 107 rfl rfl hr (by kernel_rfl) rfl (by kernel_rfl) ?_; intro w9 hr9 hg9; refine Hid.out ?_)
    have hfin := put_back HB2.out ((Below.refl (w.heap.size + 1) w2).grown hg9.out (Nat.le_trans (Nat.le_succ _) (box_le HB2.out hz)) (fun k hk => Nat.le_of_eq (Option.some.inj hk)))
    refine Lib.hid ?_
    go_wp2_with fail
    exact bodyPost_ret (results_cell_row Tryd.results81 _ _ _ _ _ (0, 0) _ rfl (hr9.out) Tryd.underlying107 rfl (by kernel_rfl)) rfl (⟨rfl, hfin⟩)
  cases b
  case false =>
    replace hb : ((be : Int) != 0) = true := hb
    go_enter Tryd.func81, Tryd.ntmps81
    have HB0 : Hid (Below (w.heap.size + 2) ((w.alloc (.cells #[.int .i64 (o : Int), .int .u32 s1, .int .u32 s2, .int .u32 s3, .bool false, .bool up, .bool false, .int .u32 ab, .int .u32 be] 120)).alloc (.cells #[.int .i64 0, .int .i64 0, .int .i64 0] 107)) ((w.alloc (.cells #[.int .i64 (o : Int), .int .u32 s1, .int .u32 s2, .int .u32 s3, .bool false, .bool up, .bool false, .int .u32 ab, .int .u32 be] 120)).alloc (.cells #[.int .i64 0, .int .i64 0, .int .i64 0] 107))) := Lib.hid (Below.refl _ _)
    have hz : ((w.alloc (.cells #[.int .i64 (o : Int), .int .u32 s1, .int .u32 s2, .int .u32 s3, .bool false, .bool up, .bool false, .int .u32 ab, .int .u32 be] 120)).alloc (.cells #[.int .i64 0, .int .i64 0, .int .i64 0] 107)).heap.size = w.heap.size + 2 := by simp
    go_wp2_with fail
    refine (FM.out 2 (by decide) _ (box2c HB0.out)).mono ?_
    rintro e w1 ⟨rfl, hb1⟩
    have HB1 := Lib.hid (HB0.out.trans (hb1.mono (by omega)))
    clear hb1
    have hr := lit3_lt HB1.out
    go_wp2_with (with_reducible show wpList _ _ _ (Oper.mk _ (.store 107 _ _) _ _ _ _ :: _) _ _; refine wpList_put rfl 107 _ _ rfl (w.heap.size + 1) #[.int .i64 ((2 : Nat) : Int), .int .i64 ((2 : Nat) : Int), .int .i64 ((0 : Nat) : Int)] _ 107 rfl rfl hr (by kernel_rfl) rfl (by kernel_rfl) ?_; intro w9 hr9 hg9; refine Hid.out ?_)
    have hfin := put_back HB1.out ((Below.refl (w.heap.size + 1) w1).grown hg9.out (Nat.le_trans (Nat.le_succ _) (box_le HB1.out hz)) (fun k hk => Nat.le_of_eq (Option.some.inj hk)))
    refine Lib.hid ?_
    go_wp2_with fail
    exact bodyPost_ret (results_cell_row Tryd.results81 _ _ _ _ _ (0, 0) _ rfl (hr9.out) Tryd.underlying107 rfl (by kernel_rfl)) rfl (⟨rfl, hfin⟩)
  replace hb : ((be : Int) != 0) = false := hb
  cases up
  case true =>
    go_enter Tryd.func81, Tryd.ntmps81
    have HB0 : Hid (Below (w.heap.size + 2) ((w.alloc (.cells #[.int .i64 (o : Int), .int .u32 s1, .int .u32 s2, .int .u32 s3, .bool false, .bool true, .bool false, .int .u32 ab, .int .u32 be] 120)).alloc (.cells #[.int .i64 0, .int .i64 0, .int .i64 0] 107)) ((w.alloc (.cells #[.int .i64 (o : Int), .int .u32 s1, .int .u32 s2, .int .u32 s3, .bool false, .bool true, .bool false, .int .u32 ab, .int .u32 be] 120)).alloc (.cells #[.int .i64 0, .int .i64 0, .int .i64 0] 107))) := Lib.hid (Below.refl _ _)
    have hz : ((w.alloc (.cells #[.int .i64 (o : Int), .int .u32 s1, .int .u32 s2, .int .u32 s3, .bool false, .bool true, .bool false, .int .u32 ab, .int .u32 be] 120)).alloc (.cells #[.int .i64 0, .int .i64 0, .int .i64 0] 107)).heap.size = w.heap.size + 2 := by simp
    go_wp2_with fail
    refine (FO.out 1 _).mono ?_
    rintro e w1 ⟨rfl, hb1⟩
    have HB1 := Lib.hid (HB0.out.trans (hb1.mono (by omega)))
    clear hb1
    have hr := lit3_lt HB1.out
    go_wp2_with (with_reducible show wpList _ _ _ (Oper.mk _ (.store 107 _ _) _ _ _ _ :: _) _ _; refine wpList_put rfl 107 _ _ rfl (w.heap.size + 1) #[.int .i64 ((3 : Nat) : Int), .int .i64 ((1 : Nat) : Int), .int .i64 ((1 : Nat) : Int)] _ 107 rfl rfl hr (by kernel_rfl) rfl (by kernel_rfl) ?_; intro w9 hr9 hg9; refine Hid.out ?_)
    have hfin := put_back HB1.out ((Below.refl (w.heap.size + 1) w1).grown hg9.out (Nat.le_trans (Nat.le_succ _) (box_le HB1.out hz)) (fun k hk => Nat.le_of_eq (Option.some.inj hk)))
    refine Lib.hid ?_
    go_wp2_with fail
    exact bodyPost_ret (results_cell_row Tryd.results81 _ _ _ _ _ (0, 0) _ rfl (hr9.out) Tryd.underlying107 rfl (by kernel_rfl)) rfl (⟨rfl, hfin⟩)
  cases a
  case false =>
    replace ha : ((ab : Int) != 0) = true := ha
    go_enter Tryd.func81, Tryd.ntmps81
    have HB0 : Hid (Below (w.heap.size + 2) ((w.alloc (.cells #[.int .i64 (o : Int), .int .u32 s1, .int .u32 s2, .int .u32 s3, .bool false, .bool false, .bool false, .int .u32 ab, .int .u32 be] 120)).alloc (.cells #[.int .i64 0, .int .i64 0, .int .i64 0] 107)) ((w.alloc (.cells #[.int .i64 (o : Int), .int .u32 s1, .int .u32 s2, .int .u32 s3, .bool false, .bool false, .bool false, .int .u32 ab, .int .u32 be] 120)).alloc (.cells #[.int .i64 0, .int .i64 0, .int .i64 0] 107))) := Lib.hid (Below.refl _ _)
    have hz : ((w.alloc (.cells #[.int .i64 (o : Int), .int .u32 s1, .int .u32 s2, .int .u32 s3, .bool false, .bool false, .bool false, .int .u32 ab, .int .u32 be] 120)).alloc (.cells #[.int .i64 0, .int .i64 0, .int .i64 0] 107)).heap.size = w.heap.size + 2 := by simp
    go_wp2_with fail
    refine (FM.out 1 (by decide) _ (box2c HB0.out)).mono ?_
    rintro e w1 ⟨rfl, hb1⟩
    have HB1 := Lib.hid (HB0.out.trans (hb1.mono (by omega)))
    clear hb1
    have hr := lit3_lt HB1.out
    go_wp2_with (with_reducible show wpList _ _ _ (Oper.mk _ (.store 107 _ _) _ _ _ _ :: _) _ _; refine wpList_put rfl 107 _ _ rfl (w.heap.size + 1) #[.int .i64 ((1 : Nat) : Int), .int .i64 ((1 : Nat) : Int), .int .i64 ((0 : Nat) : Int)] _ 107 rfl rfl hr (by kernel_rfl) rfl (by kernel_rfl) ?_; intro w9 hr9 hg9; refine Hid.out ?_)
    have hfin := put_back HB1.out ((Below.refl (w.heap.size + 1) w1).grown hg9.out (Nat.le_trans (Nat.le_succ _) (box_le HB1.out hz)) (fun k hk => Nat.le_of_eq (Option.some.inj hk)))
    refine Lib.hid ?_
    go_wp2_with fail
    exact bodyPost_ret (results_cell_row Tryd.results81 _ _ _ _ _ (0, 0) _ rfl (hr9.out) Tryd.underlying107 rfl (by kernel_rfl)) rfl (⟨rfl, hfin⟩)
  case true =>
    replace ha : ((ab : Int) != 0) = false := ha
    go_enter Tryd.func81, Tryd.ntmps81
    have HB0 : Hid (Below (w.heap.size + 2) ((w.alloc (.cells #[.int .i64 (o : Int), .int .u32 s1, .int .u32 s2, .int .u32 s3, .bool false, .bool false, .bool false, .int .u32 ab, .int .u32 be] 120)).alloc (.cells #[.int .i64 0, .int .i64 0, .int .i64 0] 107)) ((w.alloc (.cells #[.int .i64 (o : Int), .int .u32 s1, .int .u32 s2, .int .u32 s3, .bool false, .bool false, .bool false, .int .u32 ab, .int .u32 be] 120)).alloc (.cells #[.int .i64 0, .int .i64 0, .int .i64 0] 107))) := Lib.hid (Below.refl _ _)
    have hz : ((w.alloc (.cells #[.int .i64 (o : Int), .int .u32 s1, .int .u32 s2, .int .u32 s3, .bool false, .bool false, .bool false, .int .u32 ab, .int .u32 be] 120)).alloc (.cells #[.int .i64 0, .int .i64 0, .int .i64 0] 107)).heap.size = w.heap.size + 2 := by simp
    go_wp2_with fail
    refine (FM.out 0 (by decide) _ (box2c HB0.out)).mono ?_
    rintro e w1 ⟨rfl, hb1⟩
    have HB1 := Lib.hid (HB0.out.trans (hb1.mono (by omega)))
    clear hb1
    have hr := lit3_lt HB1.out
    go_wp2_with (with_reducible show wpList _ _ _ (Oper.mk _ (.store 107 _ _) _ _ _ _ :: _) _ _; refine wpList_put rfl 107 _ _ rfl (w.heap.size + 1) #[.int .i64 ((0 : Nat) : Int), .int .i64 ((0 : Nat) : Int), .int .i64 ((0 : Nat) : Int)] _ 107 rfl rfl hr (by kernel_rfl) rfl (by kernel_rfl) ?_; intro w9 hr9 hg9; refine Hid.out ?_)
    have hfin := put_back HB1.out ((Below.refl (w.heap.size + 1) w1).grown hg9.out (Nat.le_trans (Nat.le_succ _) (box_le HB1.out hz)) (fun k hk => Nat.le_of_eq (Option.some.inj hk)))
    refine Lib.hid ?_
    go_wp2_with fail
    exact bodyPost_ret (results_cell_row Tryd.results81 _ _ _ _ _ (0, 0) _ rfl (hr9.out) Tryd.underlying107 rfl (by kernel_rfl)) rfl (⟨rfl, hfin⟩)

set_option maxHeartbeats 4000000 in
theorem swUp_any (p : Pl) (w : World) (hp : p.ok) (hT : Tabs w) :
    Calls Tryd.prog 80 #[p.agg] w fun e w' => e = .returned (Cv.swUp p.sc).agg ∧ Below w.heap.size w w' := by
  have FO := Lib.hid (fun k wx => openC_any k wx)
  have FM := Lib.hid (fun k (hk : k < 3) wx (hb : Below w.heap.size w wx) => moveC_any k hk wx (hT.below hb))
  have FF := Lib.hid (fun wx => first_any p 1 2 wx (.inl rfl) (.inr rfl))
  have FD := Lib.hid (fun wx (hb : Below w.heap.size w wx) => swDn_any p wx hp (hT.below hb))
  have hD : Cv.swUp p.sc = if (p.car || p.up) = true then Cv.openC (Cv.first p.sc 1 2) else if (!decide (p.ab = 0)) = true then Cv.moveC 1 else Cv.swDn p.sc := rfl
  rw [hD]
  clear hD
  generalize Cv.first p.sc 1 2 = q at *
  generalize Cv.swDn p.sc = z at *
  obtain ⟨z1, z2, z3⟩ := z
  obtain ⟨o, ⟨s1, s2, s3⟩, car, up, dn, ab, be⟩ := p
  have ha := int_ne0 ab
  simp only [Pl.agg] at *
  generalize decide (ab = 0) = a at *
  clear hT hp
  cases car
  case true =>
    go_enter Tryd.func80, Tryd.ntmps80
    have HB0 : Hid (Below (w.heap.size + 2) ((w.alloc (.cells #[.int .i64 (o : Int), .int .u32 s1, .int .u32 s2, .int .u32 s3, .bool true, .bool up, .bool dn, .int .u32 ab, .int .u32 be] 120)).alloc (.cells #[.int .i64 0, .int .i64 0, .int .i64 0] 107)) ((w.alloc (.cells #[.int .i64 (o : Int), .int .u32 s1, .int .u32 s2, .int .u32 s3, .bool true, .bool up, .bool dn, .int .u32 ab, .int .u32 be] 120)).alloc (.cells #[.int .i64 0, .int .i64 0, .int .i64 0] 107))) := Lib.hid (Below.refl _ _)
    have hz : ((w.alloc (.cells #[.int .i64 (o : Int), .int .u32 s1, .int .u32 s2, .int .u32 s3, .bool true, .bool up, .bool dn, .int .u32 ab, .int .u32 be] 120)).alloc (.cells #[.int .i64 0, .int .i64 0, .int .i64 0] 107)).heap.size = w.heap.size + 2 := by simp
    go_wp2_with fail
    refine (FF.out _).mono ?_
    rintro e w1 ⟨rfl, hb1⟩
    have HB1 := Lib.hid (HB0.out.trans (hb1.mono (by omega)))
    clear hb1
    obtain ⟨c0, c1, c2, c3, c4, c5, c6, c7, c8⟩ := plRow (box2a HB1.out)
    go_wp2_with fail
    refine (FO.out q _).mono ?_
    rintro e w2 ⟨rfl, hb2⟩
    have HB2 := Lib.hid (HB1.out.trans (hb2.mono (box_le HB1.out hz)))
    clear hb2
    have hr := lit3_lt HB2.out
    go_wp2_with (with_reducible show wpList _ _ _ (Oper.mk _ (.store 107 _ _) _ _ _ _ :: _) _ _; refine wpList_put rfl 107 _ _ rfl (w.heap.size + 1) #[.int .i64 ((3 : Nat) : Int), .int .i64 ((q : Nat) : Int), .int .i64 ((q : Nat) : Int)] _ 107 rfl rfl hr (by kernel_rfl) rfl (by kernel_rfl) ?_; intro w9 hr9 hg9; refine Hid.out ?_)
    have hfin := put_back HB2.out ((Below.refl (w.heap.size + 1) w2).grown hg9.out (Nat.le_trans (Nat.le_succ _) (box_le HB2.out hz)) (fun k hk => Nat.le_of_eq (Option.some.inj hk)))
    refine Lib.hid ?_
    go_wp2_with fail
    exact bodyPost_ret (results_cell_row Tryd.results80 _ _ _ _ _ (0, 0) _ rfl (hr9.out) Tryd.underlying107 rfl (by kernel_rfl)) rfl (⟨rfl, hfin⟩)
  cases up
  case true =>
    go_enter Tryd.func80, Tryd.ntmps80
    have HB0 : Hid (Below (w.heap.size + 2) ((w.alloc (.cells #[.int .i64 (o : Int), .int .u32 s1, .int .u32 s2, .int .u32 s3, .bool false, .bool true, .bool dn, .int .u32 ab, .int .u32 be] 120)).alloc (.cells #[.int .i64 0, .int .i64 0, .int .i64 0] 107)) ((w.alloc (.cells #[.int .i64 (o : Int), .int .u32 s1, .int .u32 s2, .int .u32 s3, .bool false, .bool true, .bool dn, .int .u32 ab, .int .u32 be] 120)).alloc (.cells #[.int .i64 0, .int .i64 0, .int .i64 0] 107))) := Lib.hid (Below.refl _ _)
    have hz : ((w.alloc (.cells #[.int .i64 (o : Int), .int .u32 s1, .int .u32 s2, .int .u32 s3, .bool false, .bool true, .bool dn, .int .u32 ab, .int .u32 be] 120)).alloc (.cells #[.int .i64 0, .int .i64 0, .int .i64 0] 107)).heap.size = w.heap.size + 2 := by simp
    go_wp2_with fail
    refine (FF.out _).mono ?_
    rintro e w1 ⟨rfl, hb1⟩
    have HB1 := Lib.hid (HB0.out.trans (hb1.mono (by omega)))
    clear hb1
    obtain ⟨c0, c1, c2, c3, c4, c5, c6, c7, c8⟩ := plRow (box2a HB1.out)
    go_wp2_with fail
    refine (FO.out q _).mono ?_
    rintro e w2 ⟨rfl, hb2⟩
    have HB2 := Lib.hid (HB1.out.trans (hb2.mono (box_le HB1.out hz)))
    clear hb2
    have hr := lit3_lt HB2.out
    go_wp2_with (with_reducible show wpList _ _ _ (Oper.mk _ (.store 107 _ _) _ _ _ _ :: _) _ _; refine wpList_put rfl 107 _ _ rfl (w.heap.size + 1) #[.int .i64 ((3 : Nat) : Int), .int .i64 ((q : Nat) : Int), .int .i64 ((q : Nat) : Int)] _ 107 rfl rfl hr (by kernel_rfl) rfl (by kernel_rfl) ?_; intro w9 hr9 hg9; refine Hid.out ?_)
    have hfin := put_back HB2.out ((Below.refl (w.heap.size + 1) w2).grown hg9.out (Nat.le_trans (Nat.le_succ _) (box_le HB2.out hz)) (fun k hk => Nat.le_of_eq (Option.some.inj hk)))
    refine Lib.hid ?_
    go_wp2_with fail
    exact bodyPost_ret (results_cell_row Tryd.results80 _ _ _ _ _ (0, 0) _ rfl (hr9.out) Tryd.underlying107 rfl (by kernel_rfl)) rfl (⟨rfl, hfin⟩)
  cases a
  case false =>
    replace ha : ((ab : Int) != 0) = true := ha
    go_enter Tryd.func80, Tryd.ntmps80
    have HB0 : Hid (Below (w.heap.size + 2) ((w.alloc (.cells #[.int .i64 (o : Int), .int .u32 s1, .int .u32 s2, .int .u32 s3, .bool false, .bool false, .bool dn, .int .u32 ab, .int .u32 be] 120)).alloc (.cells #[.int .i64 0, .int .i64 0, .int .i64 0] 107)) ((w.alloc (.cells #[.int .i64 (o : Int), .int .u32 s1, .int .u32 s2, .int .u32 s3, .bool false, .bool false, .bool dn, .int .u32 ab, .int .u32 be] 120)).alloc (.cells #[.int .i64 0, .int .i64 0, .int .i64 0] 107))) := Lib.hid (Below.refl _ _)
    have hz : ((w.alloc (.cells #[.int .i64 (o : Int), .int .u32 s1, .int .u32 s2, .int .u32 s3, .bool false, .bool false, .bool dn, .int .u32 ab, .int .u32 be] 120)).alloc (.cells #[.int .i64 0, .int .i64 0, .int .i64 0] 107)).heap.size = w.heap.size + 2 := by simp
    go_wp2_with fail
    refine (FM.out 1 (by decide) _ (box2c HB0.out)).mono ?_
    rintro e w1 ⟨rfl, hb1⟩
    have HB1 := Lib.hid (HB0.out.trans (hb1.mono (by omega)))
    clear hb1
    have hr := lit3_lt HB1.out
    go_wp2_with (with_reducible show wpList _ _ _ (Oper.mk _ (.store 107 _ _) _ _ _ _ :: _) _ _; refine wpList_put rfl 107 _ _ rfl (w.heap.size + 1) #[.int .i64 ((1 : Nat) : Int), .int .i64 ((1 : Nat) : Int), .int .i64 ((0 : Nat) : Int)] _ 107 rfl rfl hr (by kernel_rfl) rfl (by kernel_rfl) ?_; intro w9 hr9 hg9; refine Hid.out ?_)
    have hfin := put_back HB1.out ((Below.refl (w.heap.size + 1) w1).grown hg9.out (Nat.le_trans (Nat.le_succ _) (box_le HB1.out hz)) (fun k hk => Nat.le_of_eq (Option.some.inj hk)))
    refine Lib.hid ?_
    go_wp2_with fail
    exact bodyPost_ret (results_cell_row Tryd.results80 _ _ _ _ _ (0, 0) _ rfl (hr9.out) Tryd.underlying107 rfl (by kernel_rfl)) rfl (⟨rfl, hfin⟩)
  case true =>
    replace ha : ((ab : Int) != 0) = false := ha
    go_enter Tryd.func80, Tryd.ntmps80
    have HB0 : Hid (Below (w.heap.size + 2) ((w.alloc (.cells #[.int .i64 (o : Int), .int .u32 s1, .int .u32 s2, .int .u32 s3, .bool false, .bool false, .bool dn, .int .u32 ab, .int .u32 be] 120)).alloc (.cells #[.int .i64 0, .int .i64 0, .int .i64 0] 107)) ((w.alloc (.cells #[.int .i64 (o : Int), .int .u32 s1, .int .u32 s2, .int .u32 s3, .bool false, .bool false, .bool dn, .int .u32 ab, .int .u32 be] 120)).alloc (.cells #[.int .i64 0, .int .i64 0, .int .i64 0] 107))) := Lib.hid (Below.refl _ _)
    have hz : ((w.alloc (.cells #[.int .i64 (o : Int), .int .u32 s1, .int .u32 s2, .int .u32 s3, .bool false, .bool false, .bool dn, .int .u32 ab, .int .u32 be] 120)).alloc (.cells #[.int .i64 0, .int .i64 0, .int .i64 0] 107)).heap.size = w.heap.size + 2 := by simp
    go_wp2_with fail
    refine (FD.out _ (box2c HB0.out)).mono ?_
    rintro e w1 ⟨rfl, hb1⟩
    have HB1 := Lib.hid (HB0.out.trans (hb1.mono (by omega)))
    clear hb1
    have hr := lit3_lt HB1.out
    go_wp2_with (with_reducible show wpList _ _ _ (Oper.mk _ (.store 107 _ _) _ _ _ _ :: _) _ _; refine wpList_put rfl 107 _ _ rfl (w.heap.size + 1) #[.int .i64 (z1 : Int), .int .i64 (z2 : Int), .int .i64 (z3 : Int)] _ 107 rfl rfl hr (by kernel_rfl) rfl (by kernel_rfl) ?_; intro w9 hr9 hg9; refine Hid.out ?_)
    have hfin := put_back HB1.out ((Below.refl (w.heap.size + 1) w1).grown hg9.out (Nat.le_trans (Nat.le_succ _) (box_le HB1.out hz)) (fun k hk => Nat.le_of_eq (Option.some.inj hk)))
    refine Lib.hid ?_
    go_wp2_with fail
    exact bodyPost_ret (results_cell_row Tryd.results80 _ _ _ _ _ (0, 0) _ rfl (hr9.out) Tryd.underlying107 rfl (by kernel_rfl)) rfl (⟨rfl, hfin⟩)

set_option maxHeartbeats 4000000 in
theorem rest_any (p : Pl) (w : World) (hp : p.ok) (hT : Tabs w) :
    Calls Tryd.prog 79 #[p.agg] w fun e w' => e = .returned (Cv.rest p.sc).agg ∧ Below w.heap.size w w' := by
  have FO := Lib.hid (fun k wx => openC_any k wx)
  have FM := Lib.hid (fun k (hk : k < 3) wx (hb : Below w.heap.size w wx) => moveC_any k hk wx (hT.below hb))
  have FN := Lib.hid (fun wx (hb : Below w.heap.size w wx) => nearer_any p wx hp (hT.below hb))
  have hD : Cv.rest p.sc = if p.up = true then Cv.openC 1 else if p.dn = true then Cv.openC 2 else if p.car = true then Cv.openC p.sc.nr else Cv.moveC p.sc.nr := rfl
  rw [hD]
  clear hD
  have hq : p.sc.nr < 3 := nearP_lt p.ab p.be
  generalize p.sc.nr = q at *
  obtain ⟨o, ⟨s1, s2, s3⟩, car, up, dn, ab, be⟩ := p
  simp only [Pl.agg] at *
  clear hT hp
  cases up
  case true =>
    go_enter Tryd.func79, Tryd.ntmps79
    have HB0 : Hid (Below (w.heap.size + 2) ((w.alloc (.cells #[.int .i64 (o : Int), .int .u32 s1, .int .u32 s2, .int .u32 s3, .bool car, .bool true, .bool dn, .int .u32 ab, .int .u32 be] 120)).alloc (.cells #[.int .i64 0, .int .i64 0, .int .i64 0] 107)) ((w.alloc (.cells #[.int .i64 (o : Int), .int .u32 s1, .int .u32 s2, .int .u32 s3, .bool car, .bool true, .bool dn, .int .u32 ab, .int .u32 be] 120)).alloc (.cells #[.int .i64 0, .int .i64 0, .int .i64 0] 107))) := Lib.hid (Below.refl _ _)
    have hz : ((w.alloc (.cells #[.int .i64 (o : Int), .int .u32 s1, .int .u32 s2, .int .u32 s3, .bool car, .bool true, .bool dn, .int .u32 ab, .int .u32 be] 120)).alloc (.cells #[.int .i64 0, .int .i64 0, .int .i64 0] 107)).heap.size = w.heap.size + 2 := by simp
    go_wp2_with fail
    refine (FO.out 1 _).mono ?_
    rintro e w1 ⟨rfl, hb1⟩
    have HB1 := Lib.hid (HB0.out.trans (hb1.mono (by omega)))
    clear hb1
    have hr := lit3_lt HB1.out
    go_wp2_with (with_reducible show wpList _ _ _ (Oper.mk _ (.store 107 _ _) _ _ _ _ :: _) _ _; refine wpList_put rfl 107 _ _ rfl (w.heap.size + 1) #[.int .i64 ((3 : Nat) : Int), .int .i64 ((1 : Nat) : Int), .int .i64 ((1 : Nat) : Int)] _ 107 rfl rfl hr (by kernel_rfl) rfl (by kernel_rfl) ?_; intro w9 hr9 hg9; refine Hid.out ?_)
    have hfin := put_back HB1.out ((Below.refl (w.heap.size + 1) w1).grown hg9.out (Nat.le_trans (Nat.le_succ _) (box_le HB1.out hz)) (fun k hk => Nat.le_of_eq (Option.some.inj hk)))
    refine Lib.hid ?_
    go_wp2_with fail
    exact bodyPost_ret (results_cell_row Tryd.results79 _ _ _ _ _ (0, 0) _ rfl (hr9.out) Tryd.underlying107 rfl (by kernel_rfl)) rfl (⟨rfl, hfin⟩)
  cases dn
  case true =>
    go_enter Tryd.func79, Tryd.ntmps79
    have HB0 : Hid (Below (w.heap.size + 2) ((w.alloc (.cells #[.int .i64 (o : Int), .int .u32 s1, .int .u32 s2, .int .u32 s3, .bool car, .bool false, .bool true, .int .u32 ab, .int .u32 be] 120)).alloc (.cells #[.int .i64 0, .int .i64 0, .int .i64 0] 107)) ((w.alloc (.cells #[.int .i64 (o : Int), .int .u32 s1, .int .u32 s2, .int .u32 s3, .bool car, .bool false, .bool true, .int .u32 ab, .int .u32 be] 120)).alloc (.cells #[.int .i64 0, .int .i64 0, .int .i64 0] 107))) := Lib.hid (Below.refl _ _)
    have hz : ((w.alloc (.cells #[.int .i64 (o : Int), .int .u32 s1, .int .u32 s2, .int .u32 s3, .bool car, .bool false, .bool true, .int .u32 ab, .int .u32 be] 120)).alloc (.cells #[.int .i64 0, .int .i64 0, .int .i64 0] 107)).heap.size = w.heap.size + 2 := by simp
    go_wp2_with fail
    refine (FO.out 2 _).mono ?_
    rintro e w1 ⟨rfl, hb1⟩
    have HB1 := Lib.hid (HB0.out.trans (hb1.mono (by omega)))
    clear hb1
    have hr := lit3_lt HB1.out
    go_wp2_with (with_reducible show wpList _ _ _ (Oper.mk _ (.store 107 _ _) _ _ _ _ :: _) _ _; refine wpList_put rfl 107 _ _ rfl (w.heap.size + 1) #[.int .i64 ((3 : Nat) : Int), .int .i64 ((2 : Nat) : Int), .int .i64 ((2 : Nat) : Int)] _ 107 rfl rfl hr (by kernel_rfl) rfl (by kernel_rfl) ?_; intro w9 hr9 hg9; refine Hid.out ?_)
    have hfin := put_back HB1.out ((Below.refl (w.heap.size + 1) w1).grown hg9.out (Nat.le_trans (Nat.le_succ _) (box_le HB1.out hz)) (fun k hk => Nat.le_of_eq (Option.some.inj hk)))
    refine Lib.hid ?_
    go_wp2_with fail
    exact bodyPost_ret (results_cell_row Tryd.results79 _ _ _ _ _ (0, 0) _ rfl (hr9.out) Tryd.underlying107 rfl (by kernel_rfl)) rfl (⟨rfl, hfin⟩)
  cases car
  case true =>
    go_enter Tryd.func79, Tryd.ntmps79
    have HB0 : Hid (Below (w.heap.size + 2) ((w.alloc (.cells #[.int .i64 (o : Int), .int .u32 s1, .int .u32 s2, .int .u32 s3, .bool true, .bool false, .bool false, .int .u32 ab, .int .u32 be] 120)).alloc (.cells #[.int .i64 0, .int .i64 0, .int .i64 0] 107)) ((w.alloc (.cells #[.int .i64 (o : Int), .int .u32 s1, .int .u32 s2, .int .u32 s3, .bool true, .bool false, .bool false, .int .u32 ab, .int .u32 be] 120)).alloc (.cells #[.int .i64 0, .int .i64 0, .int .i64 0] 107))) := Lib.hid (Below.refl _ _)
    have hz : ((w.alloc (.cells #[.int .i64 (o : Int), .int .u32 s1, .int .u32 s2, .int .u32 s3, .bool true, .bool false, .bool false, .int .u32 ab, .int .u32 be] 120)).alloc (.cells #[.int .i64 0, .int .i64 0, .int .i64 0] 107)).heap.size = w.heap.size + 2 := by simp
    go_wp2_with fail
    refine (FN.out _ (box2c HB0.out)).mono ?_
    rintro e w1 ⟨rfl, hb1⟩
    have HB1 := Lib.hid (HB0.out.trans (hb1.mono (by omega)))
    clear hb1
    obtain ⟨c0, c1, c2, c3, c4, c5, c6, c7, c8⟩ := plRow (box2a HB1.out)
    go_wp2_with fail
    refine (FO.out q _).mono ?_
    rintro e w2 ⟨rfl, hb2⟩
    have HB2 := Lib.hid (HB1.out.trans (hb2.mono (box_le HB1.out hz)))
    clear hb2
    have hr := lit3_lt HB2.out
    go_wp2_with (with_reducible show wpList _ _ _ (Oper.mk _ (.store 107 _ _) _ _ _ _ :: _) _ _; refine wpList_put rfl 107 _ _ rfl (w.heap.size + 1) #[.int .i64 ((3 : Nat) : Int), .int .i64 ((q : Nat) : Int), .int .i64 ((q : Nat) : Int)] _ 107 rfl rfl hr (by kernel_rfl) rfl (by kernel_rfl) ?_; intro w9 hr9 hg9; refine Hid.out ?_)
    have hfin := put_back HB2.out ((Below.refl (w.heap.size + 1) w2).grown hg9.out (Nat.le_trans (Nat.le_succ _) (box_le HB2.out hz)) (fun k hk => Nat.le_of_eq (Option.some.inj hk)))
    refine Lib.hid ?_
    go_wp2_with fail
    exact bodyPost_ret (results_cell_row Tryd.results79 _ _ _ _ _ (0, 0) _ rfl (hr9.out) Tryd.underlying107 rfl (by kernel_rfl)) rfl (⟨rfl, hfin⟩)
  case false =>
    go_enter Tryd.func79, Tryd.ntmps79
    have HB0 : Hid (Below (w.heap.size + 2) ((w.alloc (.cells #[.int .i64 (o : Int), .int .u32 s1, .int .u32 s2, .int .u32 s3, .bool false, .bool false, .bool false, .int .u32 ab, .int .u32 be] 120)).alloc (.cells #[.int .i64 0, .int .i64 0, .int .i64 0] 107)) ((w.alloc (.cells #[.int .i64 (o : Int), .int .u32 s1, .int .u32 s2, .int .u32 s3, .bool false, .bool false, .bool false, .int .u32 ab, .int .u32 be] 120)).alloc (.cells #[.int .i64 0, .int .i64 0, .int .i64 0] 107))) := Lib.hid (Below.refl _ _)
    have hz : ((w.alloc (.cells #[.int .i64 (o : Int), .int .u32 s1, .int .u32 s2, .int .u32 s3, .bool false, .bool false, .bool false, .int .u32 ab, .int .u32 be] 120)).alloc (.cells #[.int .i64 0, .int .i64 0, .int .i64 0] 107)).heap.size = w.heap.size + 2 := by simp
    go_wp2_with fail
    refine (FN.out _ (box2c HB0.out)).mono ?_
    rintro e w1 ⟨rfl, hb1⟩
    have HB1 := Lib.hid (HB0.out.trans (hb1.mono (by omega)))
    clear hb1
    obtain ⟨c0, c1, c2, c3, c4, c5, c6, c7, c8⟩ := plRow (box2a HB1.out)
    go_wp2_with fail
    refine (FM.out q hq _ (box2c HB1.out)).mono ?_
    rintro e w2 ⟨rfl, hb2⟩
    have HB2 := Lib.hid (HB1.out.trans (hb2.mono (box_le HB1.out hz)))
    clear hb2
    have hr := lit3_lt HB2.out
    go_wp2_with (with_reducible show wpList _ _ _ (Oper.mk _ (.store 107 _ _) _ _ _ _ :: _) _ _; refine wpList_put rfl 107 _ _ rfl (w.heap.size + 1) #[.int .i64 ((q : Nat) : Int), .int .i64 ((q : Nat) : Int), .int .i64 ((0 : Nat) : Int)] _ 107 rfl rfl hr (by kernel_rfl) rfl (by kernel_rfl) ?_; intro w9 hr9 hg9; refine Hid.out ?_)
    have hfin := put_back HB2.out ((Below.refl (w.heap.size + 1) w2).grown hg9.out (Nat.le_trans (Nat.le_succ _) (box_le HB2.out hz)) (fun k hk => Nat.le_of_eq (Option.some.inj hk)))
    refine Lib.hid ?_
    go_wp2_with fail
    exact bodyPost_ret (results_cell_row Tryd.results79 _ _ _ _ _ (0, 0) _ rfl (hr9.out) Tryd.underlying107 rfl (by kernel_rfl)) rfl (⟨rfl, hfin⟩)
end Go.Proofs.YtnjcegkefjdgdaaDoor
