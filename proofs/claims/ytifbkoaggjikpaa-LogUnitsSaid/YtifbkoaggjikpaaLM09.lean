/- What the texts behind this one rest on: one text. No statement of the seat is proved here. -/
import Derived.Test.YtifbkoaggjikpaaLM08
import Derived.Test.YtifbkoaggjikpaaLM02
namespace Go.Proofs.Ytifbkoaggjikpaa
section
open Go.RowKit

theorem boxRow {wx : World} {g : Nat} {f d r p : Int} {e1 e2 e3 : Nat} {A : Option Addr} {n cap : Nat} (h : wx.heap[g]? = some (.cells #[.int .i64 f, .int .i64 d, .int .i64 r, .int .i64 p, .float .f64 e1, .float .f64 e2, .float .f64 e3, .slice A n cap] 26 (0, 0))) :
    wx.cell? ⟨g, 0, none⟩ = some (.int .i64 f) ∧ wx.cell? ⟨g, 1, none⟩ = some (.int .i64 d) ∧ wx.cell? ⟨g, 2, none⟩ = some (.int .i64 r) ∧ wx.cell? ⟨g, 3, none⟩ = some (.int .i64 p) ∧ wx.cell? ⟨g, 4, none⟩ = some (.float .f64 e1) ∧ wx.cell? ⟨g, 5, none⟩ = some (.float .f64 e2) ∧ wx.cell? ⟨g, 6, none⟩ = some (.float .f64 e3) ∧ wx.cell? ⟨g, 7, none⟩ = some (.slice A n cap) :=
  ⟨cell_of_row wx _ _ _ _ (0, 0) h, cell_of_row wx _ _ _ _ (0, 0) h, cell_of_row wx _ _ _ _ (0, 0) h, cell_of_row wx _ _ _ _ (0, 0) h, cell_of_row wx _ _ _ _ (0, 0) h, cell_of_row wx _ _ _ _ (0, 0) h, cell_of_row wx _ _ _ _ (0, 0) h, cell_of_row wx _ _ _ _ (0, 0) h⟩
theorem recRow {wx : World} {g : Nat} {k fl di ca va : Int} (h : wx.heap[g]? = some (.cells #[.int .i64 k, .int .i64 fl, .int .i64 di, .int .i64 ca, .int .i64 va] 41 (0, 0))) :
    wx.cell? ⟨g, 0, none⟩ = some (.int .i64 k) ∧ wx.cell? ⟨g, 1, none⟩ = some (.int .i64 fl) ∧ wx.cell? ⟨g, 2, none⟩ = some (.int .i64 di) ∧ wx.cell? ⟨g, 3, none⟩ = some (.int .i64 ca) ∧ wx.cell? ⟨g, 4, none⟩ = some (.int .i64 va) :=
  ⟨cell_of_row wx _ _ _ _ (0, 0) h, cell_of_row wx _ _ _ _ (0, 0) h, cell_of_row wx _ _ _ _ (0, 0) h, cell_of_row wx _ _ _ _ (0, 0) h, cell_of_row wx _ _ _ _ (0, 0) h⟩
theorem below2 {w wx : World} {o1 o2 : Obj} (h : Below (w.heap.size + 2) ((w.alloc o1).alloc o2) wx) : Below w.heap.size w wx :=
  (((Below.refl w.heap.size w).alloc (Nat.le_refl _) o1).alloc (by simp) o2).trans (h.mono (by omega))
theorem rows2 {w wx : World} {c1 c2 : Array Value} {t1 t2 : TypeId} (h : Below (w.heap.size + 2) ((w.alloc (.cells c1 t1)).alloc (.cells c2 t2)) wx) : wx.heap[w.heap.size]? = some (.cells c1 t1 (0, 0)) ∧ wx.heap[w.heap.size + 1]? = some (.cells c2 t2 (0, 0)) := by
  constructor
  · rw [h.block _ (by omega), Below.heap_alloc _ _ _ (by simp)]
    exact heap_alloc_new _ _
  · rw [h.block _ (by omega)]
    have := heap_alloc_new (w.alloc (.cells c1 t1)) (.cells c2 t2)
    simpa using this
theorem start2 (w : World) (o1 o2 : Obj) : Below (w.heap.size + 2) ((w.alloc o1).alloc o2) ((w.alloc o1).alloc o2) := Below.refl _ _

set_option maxHeartbeats 1000000 in
theorem fits_any (x : Rc) (lo hi v : Int) (w : World) :
    Calls Try.prog 61 #[x.agg, .int .i64 lo, .int .i64 hi, .int .i64 v] w fun e w' => e = .returned (.bool (Rc.fitB x lo hi v)) ∧ Below w.heap.size w w' := by
  have e : Rc.fitB x lo hi v = (decide (lo ≤ x.car) && (decide (x.car ≤ hi) && (decide (0 ≤ x.value) && decide (x.value ≤ v)))) := rfl
  generalize Rc.fitB x lo hi v = R at *
  have HR := Lib.hid e
  clear e
  obtain ⟨k, fl, di, ca, va⟩ := x
  simp only [Rc.agg] at HR ⊢
  rcases Bool.eq_false_or_eq_true (decide (lo ≤ ca)) with h1 | h1 <;>
  rcases Bool.eq_false_or_eq_true (decide (ca ≤ hi)) with h2 | h2 <;>
  rcases Bool.eq_false_or_eq_true (decide (0 ≤ va)) with h3 | h3
  all_goals
    go_enter Try.func61, Try.ntmps61
    go_wp2
    go_ret
    refine ⟨ret_bool ?_, by go_grown⟩
    rw [HR.out, h1, h2, h3]
    first | rfl | simp
theorem in9_any (n lo hi : Int) (w : World) :
    Calls Try.prog 75 #[.int .i64 n, .int .i64 lo, .int .i64 hi] w fun e w' => e = .returned (.bool (decide (lo ≤ n) && decide (n ≤ hi))) ∧ w = w' := by
  rcases Bool.eq_false_or_eq_true (decide (lo ≤ n)) with h1 | h1
  all_goals
    have h1' : decide (n ≥ lo) = _ := h1
    go_enter Try.func75, Try.ntmps75
    go_wp2
    go_ret
    refine ⟨ret_bool ?_, rfl⟩
    rw [h1]
    simp
set_option maxHeartbeats 1000000 in
theorem ofCall_any (b : BldD) (A : Option Addr) (cap : Nat) (x : Rc) (w : World) (hn : b.cars.length ≤ 140737488355328) (hc : CarsAt w w.heap.size A b.cars) :
    Calls Try.prog 60 #[b.agg A cap, x.agg] w fun e w' => e = .returned (.bool (Rc.callB b x)) ∧ Below w.heap.size w w' := by
  have F := Lib.hid (fun wx (h : Below w.heap.size w wx) => isCall_any b A cap x.floor x.dir wx hn ((hc.below h).more h.size))
  unfold Rc.callB
  clear hc
  obtain ⟨f, d, r, p, e1, e2, e3, cs⟩ := b
  obtain ⟨k, fl, di, ca, va⟩ := x
  simp only [BldD.agg, Rc.agg] at F hn ⊢
  generalize isCallF _ _ _ = R at *
  go_enter Try.func60, Try.ntmps60
  go_wp2_with fail
  refine (F.out _ (by go_grown)).mono ?_
  rintro e w1 ⟨rfl, hb1⟩
  have hbel := below2 ((start2 w _ _).trans (hb1.mono (by simp)))
  clear hb1
  go_wp2_with fail
  go_ret
  exact ⟨rfl, hbel⟩
set_option maxHeartbeats 1000000 in
theorem ofCar_any (b : BldD) (A : Option Addr) (cap : Nat) (x : Rc) (w : World) (hn : b.cars.length ≤ 140737488355328) (hc : CarsAt w w.heap.size A b.cars) :
    Calls Try.prog 62 #[b.agg A cap, x.agg] w fun e w' => e = .returned (.bool (Rc.carB b x)) ∧ Below w.heap.size w w' := by
  have F := Lib.hid (fun wx (h : Below w.heap.size w wx) => valid_any b A cap wx hn ((hc.below h).more h.size))
  have e : Rc.carB b x = ((validE b == 0) && ((x.floor == 0) && (x.dir == 0))) := by unfold Rc.carB; rw [Bool.eq_iff_iff]; simp
  generalize Rc.carB b x = R at *
  have HR := Lib.hid e
  clear hc e
  obtain ⟨f, d, r, p, e1, e2, e3, cs⟩ := b
  obtain ⟨k, fl, di, ca, va⟩ := x
  simp only [BldD.agg, Rc.agg] at F hn HR ⊢
  generalize validE _ = V at *
  rcases Bool.eq_false_or_eq_true (V == 0) with h1 | h1 <;>
  rcases Bool.eq_false_or_eq_true (fl == 0) with h2 | h2
  all_goals
    go_enter Try.func62, Try.ntmps62
    go_wp2_with fail
    refine (F.out _ (by go_grown)).mono ?_
    rintro e w1 ⟨rfl, hb1⟩
    have hbel := (start2 w _ _).trans (hb1.mono (by simp))
    obtain ⟨k0, k1, k2, k3, k4⟩ := recRow (rows2 hbel).2
    have HB := Lib.hid (below2 hbel)
    clear hb1 hbel
    go_wp2_with fail
    go_ret
    refine ⟨ret_bool ?_, HB.out⟩
    rw [HR.out, h1, h2]
    first | rfl | simp

set_option maxHeartbeats 4000000 in
theorem valid9_any (b : BldD) (A : Option Addr) (cap : Nat) (x : Rc) (w : World) (hn : b.cars.length ≤ 140737488355328) (hc : CarsAt w w.heap.size A b.cars) :
    Calls Try.prog 36 #[b.agg A cap, x.agg] w fun e w' => e = .returned (.bool (Rc.okB b x)) ∧ Below w.heap.size w w' := by
  have FC := Lib.hid (fun wx (h : Below w.heap.size w wx) => ofCall_any b A cap x wx hn ((hc.below h).more h.size))
  have FR := Lib.hid (fun wx (h : Below w.heap.size w wx) => ofCar_any b A cap x wx hn ((hc.below h).more h.size))
  have FF := Lib.hid (fun lo hi v wx => fits_any x lo hi v wx)
  have HO := Lib.hid (show Rc.okB b x = (if x.kind = 1 ∨ x.kind = 2 then Rc.callB b x && Rc.fitB x 0 0 0 else if x.kind = 3 then Rc.callB b x && Rc.fitB x (-2) (b.cars.length - 1) 0 else if x.kind = 4 then Rc.carB b x && Rc.fitB x 0 (b.cars.length - 1) 4 else if x.kind = 5 ∨ x.kind = 6 then Rc.carB b x && Rc.fitB x 0 (b.cars.length - 1) 1 else if x.kind = 7 then Rc.callB b x && Rc.fitB x 0 1 255 else false) from rfl)
  clear hc
  generalize Rc.okB b x = R at *
  obtain ⟨f, d, r, p, e1, e2, e3, cs⟩ := b
  generalize Rc.callB _ x = CB at *
  generalize Rc.carB _ x = RB at *
  generalize hfit : Rc.fitB x = FB at *
  clear hfit
  obtain ⟨k, fl, di, ca, va⟩ := x
  simp only [BldD.agg, Rc.agg] at FC FR FF hn HO ⊢
  have hk : k = 1 ∨ k = 2 ∨ k = 3 ∨ k = 4 ∨ k = 5 ∨ k = 6 ∨ k = 7 ∨ (k ≠ 1 ∧ k ≠ 2 ∧ k ≠ 3 ∧ k ≠ 4 ∧ k ≠ 5 ∧ k ≠ 6 ∧ k ≠ 7) := by omega
  rcases hk with rfl | rfl | rfl | rfl | rfl | rfl | rfl | ⟨h1, h2, h3, h4, h5, h6, h7⟩
  · have hR : R = (CB && _) := HO.out
    clear HO
    cases CB
    all_goals
      go_enter Try.func36, Try.ntmps36
      go_wp2_with fail
      refine (FC.out _ (by go_grown)).mono ?_
      rintro e w1 ⟨rfl, hb1⟩
      have hbel := (start2 w _ _).trans (hb1.mono (by simp))
      obtain ⟨k0, k1, k2, k3, k4⟩ := recRow (rows2 hbel).2
      have HB := Lib.hid (below2 hbel)
      clear hb1 hbel
      go_wp2_with (go_at_call 61; refine (FF.out _ _ _ _).mono ?_; rintro e w2 ⟨rfl, hb2⟩; have HB2 := Lib.hid (HB.out.trans (hb2.mono HB.out.size)); clear hb2)
      go_ret
      first | exact ⟨ret_bool (by rw [hR]; rfl), HB2.out⟩ | exact ⟨ret_bool (by rw [hR]; rfl), HB.out⟩
  · have hR : R = (CB && _) := HO.out
    clear HO
    cases CB
    all_goals
      go_enter Try.func36, Try.ntmps36
      go_wp2_with fail
      refine (FC.out _ (by go_grown)).mono ?_
      rintro e w1 ⟨rfl, hb1⟩
      have hbel := (start2 w _ _).trans (hb1.mono (by simp))
      obtain ⟨k0, k1, k2, k3, k4⟩ := recRow (rows2 hbel).2
      have HB := Lib.hid (below2 hbel)
      clear hb1 hbel
      go_wp2_with (go_at_call 61; refine (FF.out _ _ _ _).mono ?_; rintro e w2 ⟨rfl, hb2⟩; have HB2 := Lib.hid (HB.out.trans (hb2.mono HB.out.size)); clear hb2)
      go_ret
      first | exact ⟨ret_bool (by rw [hR]; rfl), HB2.out⟩ | exact ⟨ret_bool (by rw [hR]; rfl), HB.out⟩
  · have hR : R = (CB && _) := HO.out
    clear HO
    cases CB
    all_goals
      go_enter Try.func36, Try.ntmps36
      go_wp2_with fail
      refine (FC.out _ (by go_grown)).mono ?_
      rintro e w1 ⟨rfl, hb1⟩
      have hbel := (start2 w _ _).trans (hb1.mono (by simp))
      obtain ⟨k0, k1, k2, k3, k4⟩ := recRow (rows2 hbel).2
      have HB := Lib.hid (below2 hbel)
      clear hb1 hbel
      go_wp2_with (go_at_call 61; refine (FF.out _ _ _ _).mono ?_; rintro e w2 ⟨rfl, hb2⟩; have HB2 := Lib.hid (HB.out.trans (hb2.mono HB.out.size)); clear hb2)
      go_ret
      first | exact ⟨ret_bool (by rw [hR]; rfl), HB2.out⟩ | exact ⟨ret_bool (by rw [hR]; rfl), HB.out⟩
  · have hR : R = (RB && _) := HO.out
    clear HO
    cases RB
    all_goals
      go_enter Try.func36, Try.ntmps36
      go_wp2_with fail
      refine (FR.out _ (by go_grown)).mono ?_
      rintro e w1 ⟨rfl, hb1⟩
      have hbel := (start2 w _ _).trans (hb1.mono (by simp))
      obtain ⟨k0, k1, k2, k3, k4⟩ := recRow (rows2 hbel).2
      have HB := Lib.hid (below2 hbel)
      clear hb1 hbel
      go_wp2_with (go_at_call 61; refine (FF.out _ _ _ _).mono ?_; rintro e w2 ⟨rfl, hb2⟩; have HB2 := Lib.hid (HB.out.trans (hb2.mono HB.out.size)); clear hb2)
      go_ret
      first | exact ⟨ret_bool (by rw [hR]; rfl), HB2.out⟩ | exact ⟨ret_bool (by rw [hR]; rfl), HB.out⟩
  · have hR : R = (RB && _) := HO.out
    clear HO
    cases RB
    all_goals
      go_enter Try.func36, Try.ntmps36
      go_wp2_with fail
      refine (FR.out _ (by go_grown)).mono ?_
      rintro e w1 ⟨rfl, hb1⟩
      have hbel := (start2 w _ _).trans (hb1.mono (by simp))
      obtain ⟨k0, k1, k2, k3, k4⟩ := recRow (rows2 hbel).2
      have HB := Lib.hid (below2 hbel)
      clear hb1 hbel
      go_wp2_with (go_at_call 61; refine (FF.out _ _ _ _).mono ?_; rintro e w2 ⟨rfl, hb2⟩; have HB2 := Lib.hid (HB.out.trans (hb2.mono HB.out.size)); clear hb2)
      go_ret
      first | exact ⟨ret_bool (by rw [hR]; rfl), HB2.out⟩ | exact ⟨ret_bool (by rw [hR]; rfl), HB.out⟩
  · have hR : R = (RB && _) := HO.out
    clear HO
    cases RB
    all_goals
      go_enter Try.func36, Try.ntmps36
      go_wp2_with fail
      refine (FR.out _ (by go_grown)).mono ?_
      rintro e w1 ⟨rfl, hb1⟩
      have hbel := (start2 w _ _).trans (hb1.mono (by simp))
      obtain ⟨k0, k1, k2, k3, k4⟩ := recRow (rows2 hbel).2
      have HB := Lib.hid (below2 hbel)
      clear hb1 hbel
      go_wp2_with (go_at_call 61; refine (FF.out _ _ _ _).mono ?_; rintro e w2 ⟨rfl, hb2⟩; have HB2 := Lib.hid (HB.out.trans (hb2.mono HB.out.size)); clear hb2)
      go_ret
      first | exact ⟨ret_bool (by rw [hR]; rfl), HB2.out⟩ | exact ⟨ret_bool (by rw [hR]; rfl), HB.out⟩
  · have hR : R = (CB && _) := HO.out
    clear HO
    cases CB
    all_goals
      go_enter Try.func36, Try.ntmps36
      go_wp2_with fail
      refine (FC.out _ (by go_grown)).mono ?_
      rintro e w1 ⟨rfl, hb1⟩
      have hbel := (start2 w _ _).trans (hb1.mono (by simp))
      obtain ⟨k0, k1, k2, k3, k4⟩ := recRow (rows2 hbel).2
      have HB := Lib.hid (below2 hbel)
      clear hb1 hbel
      go_wp2_with (go_at_call 61; refine (FF.out _ _ _ _).mono ?_; rintro e w2 ⟨rfl, hb2⟩; have HB2 := Lib.hid (HB.out.trans (hb2.mono HB.out.size)); clear hb2)
      go_ret
      first | exact ⟨ret_bool (by rw [hR]; rfl), HB2.out⟩ | exact ⟨ret_bool (by rw [hR]; rfl), HB.out⟩
  · have hR : R = false := by rw [HO.out]; simp [h1, h2, h3, h4, h5, h6, h7]
    go_enter Try.func36, Try.ntmps36
    go_wp2_with fail
    go_ret
    exact ⟨ret_bool (by rw [hR]), below2 (start2 w _ _)⟩
end
end Go.Proofs.Ytifbkoaggjikpaa
