/- overlayref03.IsIn: the reference's test of inputs. No statement of the seat is proved here. -/
import Derived.Test.YthbfpdkgbkpmiaaG28
namespace Go.Proofs.Ythbfpdkgbkpmiaa
open Go.RowKit Frm

def carIs (F : Int) (c : CarIn) : Bool := floorsB F c.floors && (floorsB F c.calls && (inB 0 (F - 1) c.floor && inB 0 2 c.door))
def headIs (x : BldD) (y : In) : Bool := (setB y.pu (hallUp x) && setB y.pd (hallDown x)) && (inB 0 8 y.kind && (inB 0 ((x.cars.length : Int) - 1) y.car && (!(y.kind == 0 && y.car != 0) && decide ((y.cars.length : Int) = (x.cars.length : Int)))))
def isInB (x : BldD) (y : In) : Bool := decide (validE x = 0) && (headIs x y && y.cars.all (carIs x.floors))

theorem all_no {F : Int} {ys : List CarIn} {m : Nat} (h : m < ys.length) (hc : carIs F ys[m] = false) : ys.all (carIs F) = false := by
  rw [List.all_eq_false]
  exact ⟨ys[m], List.getElem_mem h, by simp [hc]⟩
theorem all_take {F : Int} {ys : List CarIn} {m : Nat} (h : m < ys.length) (hc : carIs F ys[m] = true) (ht : (ys.take m).all (carIs F) = true) : (ys.take (m + 1)).all (carIs F) = true := by
  rw [List.take_succ_eq_append_getElem h, List.all_append, ht]
  simp [hc]

set_option maxRecDepth 100000 in
set_option maxHeartbeats 4000000 in
theorem refIsIn_any (x : BldD) (A : Option Addr) (cap : Nat) (y : In) (A' : Option Addr) (cp : Nat) (w : World) (hxn : x.cars.length ≤ 140737488355328) (hc : CarsAt w w.heap.size A x.cars) (hn : y.cars.length ≤ 1000) (hy : saneIn y) (hv : CarsV w A' y.cars) :
    Calls Try.prog 31 #[x.agg A cap, inAgg y A' cp] w fun e w' => e = .returned (.bool (isInB x y)) ∧ Below w.heap.size w w' := by
  have F1 := Lib.hid (fun wx (h : Below w.heap.size w wx) => refValid_any x A cap wx hxn ((hc.below h).more h.size))
  have F2 := Lib.hid (fun wx (h : Below w.heap.size w wx) => refWithin_any x A cap y.pu y.pd wx hxn ((hc.below h).more h.size) hy.1 hy.2.1)
  have HV := Lib.hid hv
  have HSC : Hid (∀ c ∈ y.cars, saneCar c) := hy.2.2.2.2
  clear hc hv hy
  have HIS : Hid (isInB x y = (decide (validE x = 0) && (headIs x y && y.cars.all (carIs x.floors)))) := rfl
  have HHS : Hid (headIs x y = ((setB y.pu (hallUp x) && setB y.pd (hallDown x)) && (inB 0 8 y.kind && (inB 0 ((x.cars.length : Int) - 1) y.car && (!(y.kind == 0 && y.car != 0) && decide ((y.cars.length : Int) = (x.cars.length : Int))))))) := rfl
  generalize isInB x y = R at *
  generalize headIs x y = HD at *
  have hcw : IntKind.i64.wrap ((x.cars.length : Int) - 1) = (x.cars.length : Int) - 1 := IntWalk.i64_in _ (by omega)
  have F3 : Hid (validE x = 0 → 0 ≤ x.floors ∧ x.floors ≤ 32 ∧ ∀ (n : Nat) wx, n < 4294967296 → Calls Try.prog 61 #[x.agg A cap, .int .u32 n] wx fun e w' => e = .returned (.bool (floorsB x.floors n)) ∧ Below wx.heap.size wx w') := fun h => by
    obtain ⟨⟨hf1, hf2⟩, -, -⟩ := fine_of h
    exact ⟨by omega, by omega, fun n wx hn => refFloors_any x A cap n wx hn ⟨by omega, by omega⟩⟩
  obtain ⟨pu, pd, kind, car, ys⟩ := y
  obtain ⟨V, hV⟩ : ∃ V, V = validE x := ⟨_, rfl⟩
  rw [← hV] at F1 HIS F3
  clear hV
  generalize (setB pu (hallUp x) && setB pd (hallDown x)) = S at *
  obtain ⟨f, d, r, p, e1, e2, e3, cs⟩ := x
  simp only [BldD.agg, inAgg, callsV] at *
  by_cases hV : V = 0
  case neg =>
    have hne : (V != 0) = true := bne_iff_ne.2 hV
    obtain rfl : R = false := by rw [HIS.out, decide_eq_false hV]; rfl
    clear hV
    go_enter Try.func31, Try.ntmps31
    go_wp2_with fail
    obtain ⟨W0, hW0⟩ : ∃ W0, W0 = (w.alloc (.cells #[.int .i64 f, .int .i64 d, .int .i64 r, .int .i64 p, .float .f64 e1, .float .f64 e2, .float .f64 e3, .slice A cs.length cap] 25)).alloc (.cells #[.int .u32 pu, .int .u32 pd, .int .i64 kind, .int .i64 car, .slice A' ys.length cp] 33) := ⟨_, rfl⟩
    rw [← hW0]
    have hs0 : W0.heap.size = w.heap.size + 2 := by rw [hW0]; simp
    have HBW : Hid (Below w.heap.size w W0) := by rw [hW0]; exact ((Below.refl _ _).alloc (Nat.le_refl _) _).alloc (by simp) _
    have HB : Hid (∀ wx, Below W0.heap.size W0 wx → wx.cell? ⟨w.heap.size, 0, none⟩ = some (.int .i64 f) ∧ wx.cell? ⟨w.heap.size, 1, none⟩ = some (.int .i64 d) ∧ wx.cell? ⟨w.heap.size, 2, none⟩ = some (.int .i64 r) ∧ wx.cell? ⟨w.heap.size, 3, none⟩ = some (.int .i64 p) ∧ wx.cell? ⟨w.heap.size, 4, none⟩ = some (.float .f64 e1) ∧ wx.cell? ⟨w.heap.size, 5, none⟩ = some (.float .f64 e2) ∧ wx.cell? ⟨w.heap.size, 6, none⟩ = some (.float .f64 e3) ∧ wx.cell? ⟨w.heap.size, 7, none⟩ = some (.slice A cs.length cap) ∧ wx.cell? ⟨w.heap.size + 1, 0, none⟩ = some (.int .u32 pu) ∧ wx.cell? ⟨w.heap.size + 1, 1, none⟩ = some (.int .u32 pd) ∧ wx.cell? ⟨w.heap.size + 1, 2, none⟩ = some (.int .i64 kind) ∧ wx.cell? ⟨w.heap.size + 1, 3, none⟩ = some (.int .i64 car) ∧ wx.cell? ⟨w.heap.size + 1, 4, none⟩ = some (.slice A' ys.length cp)) := fun wx h => by
      have r0 : wx.heap[w.heap.size]? = some (.cells #[.int .i64 f, .int .i64 d, .int .i64 r, .int .i64 p, .float .f64 e1, .float .f64 e2, .float .f64 e3, .slice A cs.length cap] 25 (0, 0)) := (h.block _ (by omega)).trans (by rw [hW0]; exact (Below.heap_alloc _ _ _ (by simp)).trans (heap_alloc_new w _))
      have r1 : wx.heap[w.heap.size + 1]? = some (.cells #[.int .u32 pu, .int .u32 pd, .int .i64 kind, .int .i64 car, .slice A' ys.length cp] 33 (0, 0)) := (h.block _ (by omega)).trans (by
        rw [hW0]
        have h := heap_alloc_new (w.alloc (.cells #[.int .i64 f, .int .i64 d, .int .i64 r, .int .i64 p, .float .f64 e1, .float .f64 e2, .float .f64 e3, .slice A cs.length cap] 25)) (.cells #[.int .u32 pu, .int .u32 pd, .int .i64 kind, .int .i64 car, .slice A' ys.length cp] 33)
        have e : (w.alloc (.cells #[.int .i64 f, .int .i64 d, .int .i64 r, .int .i64 p, .float .f64 e1, .float .f64 e2, .float .f64 e3, .slice A cs.length cap] 25)).heap.size = w.heap.size + 1 := by simp
        rw [e] at h
        exact h)
      exact ⟨cell_of_row _ _ _ _ _ (0, 0) r0, cell_of_row _ _ _ _ _ (0, 0) r0, cell_of_row _ _ _ _ _ (0, 0) r0, cell_of_row _ _ _ _ _ (0, 0) r0, cell_of_row _ _ _ _ _ (0, 0) r0, cell_of_row _ _ _ _ _ (0, 0) r0, cell_of_row _ _ _ _ _ (0, 0) r0, cell_of_row _ _ _ _ _ (0, 0) r0, cell_of_row _ _ _ _ _ (0, 0) r1, cell_of_row _ _ _ _ _ (0, 0) r1, cell_of_row _ _ _ _ _ (0, 0) r1, cell_of_row _ _ _ _ _ (0, 0) r1, cell_of_row _ _ _ _ _ (0, 0) r1⟩
    clear hW0
    refine (F1.out W0 HBW.out).mono ?_
    rintro e w1 ⟨rfl, hb1⟩
    obtain ⟨a0, a1, a2, a3, a4, a5, a6, a7, a8, a9, a10, a11, a12⟩ := HB.out w1 hb1
    have HX := Lib.hid hb1
    clear hb1
    go_wp2_with fail
    go_ret
    exact ⟨rfl, HBW.out.trans (HX.out.mono (by omega))⟩
  subst hV
  obtain ⟨hf0, hf32, hfl⟩ := F3.out rfl
  have FL := Lib.hid hfl
  clear F3 hfl
  rw [decide_eq_true rfl, Bool.true_and] at HIS
  cases S with
  | false =>
    obtain rfl : HD = false := by rw [HHS.out]; rfl
    obtain rfl : R = false := by rw [HIS.out]; rfl
    go_enter Try.func31, Try.ntmps31
    go_wp2_with fail
    obtain ⟨W0, hW0⟩ : ∃ W0, W0 = (w.alloc (.cells #[.int .i64 f, .int .i64 d, .int .i64 r, .int .i64 p, .float .f64 e1, .float .f64 e2, .float .f64 e3, .slice A cs.length cap] 25)).alloc (.cells #[.int .u32 pu, .int .u32 pd, .int .i64 kind, .int .i64 car, .slice A' ys.length cp] 33) := ⟨_, rfl⟩
    rw [← hW0]
    have hs0 : W0.heap.size = w.heap.size + 2 := by rw [hW0]; simp
    have HBW : Hid (Below w.heap.size w W0) := by rw [hW0]; exact ((Below.refl _ _).alloc (Nat.le_refl _) _).alloc (by simp) _
    have HB : Hid (∀ wx, Below W0.heap.size W0 wx → wx.cell? ⟨w.heap.size, 0, none⟩ = some (.int .i64 f) ∧ wx.cell? ⟨w.heap.size, 1, none⟩ = some (.int .i64 d) ∧ wx.cell? ⟨w.heap.size, 2, none⟩ = some (.int .i64 r) ∧ wx.cell? ⟨w.heap.size, 3, none⟩ = some (.int .i64 p) ∧ wx.cell? ⟨w.heap.size, 4, none⟩ = some (.float .f64 e1) ∧ wx.cell? ⟨w.heap.size, 5, none⟩ = some (.float .f64 e2) ∧ wx.cell? ⟨w.heap.size, 6, none⟩ = some (.float .f64 e3) ∧ wx.cell? ⟨w.heap.size, 7, none⟩ = some (.slice A cs.length cap) ∧ wx.cell? ⟨w.heap.size + 1, 0, none⟩ = some (.int .u32 pu) ∧ wx.cell? ⟨w.heap.size + 1, 1, none⟩ = some (.int .u32 pd) ∧ wx.cell? ⟨w.heap.size + 1, 2, none⟩ = some (.int .i64 kind) ∧ wx.cell? ⟨w.heap.size + 1, 3, none⟩ = some (.int .i64 car) ∧ wx.cell? ⟨w.heap.size + 1, 4, none⟩ = some (.slice A' ys.length cp)) := fun wx h => by
      have r0 : wx.heap[w.heap.size]? = some (.cells #[.int .i64 f, .int .i64 d, .int .i64 r, .int .i64 p, .float .f64 e1, .float .f64 e2, .float .f64 e3, .slice A cs.length cap] 25 (0, 0)) := (h.block _ (by omega)).trans (by rw [hW0]; exact (Below.heap_alloc _ _ _ (by simp)).trans (heap_alloc_new w _))
      have r1 : wx.heap[w.heap.size + 1]? = some (.cells #[.int .u32 pu, .int .u32 pd, .int .i64 kind, .int .i64 car, .slice A' ys.length cp] 33 (0, 0)) := (h.block _ (by omega)).trans (by
        rw [hW0]
        have h := heap_alloc_new (w.alloc (.cells #[.int .i64 f, .int .i64 d, .int .i64 r, .int .i64 p, .float .f64 e1, .float .f64 e2, .float .f64 e3, .slice A cs.length cap] 25)) (.cells #[.int .u32 pu, .int .u32 pd, .int .i64 kind, .int .i64 car, .slice A' ys.length cp] 33)
        have e : (w.alloc (.cells #[.int .i64 f, .int .i64 d, .int .i64 r, .int .i64 p, .float .f64 e1, .float .f64 e2, .float .f64 e3, .slice A cs.length cap] 25)).heap.size = w.heap.size + 1 := by simp
        rw [e] at h
        exact h)
      exact ⟨cell_of_row _ _ _ _ _ (0, 0) r0, cell_of_row _ _ _ _ _ (0, 0) r0, cell_of_row _ _ _ _ _ (0, 0) r0, cell_of_row _ _ _ _ _ (0, 0) r0, cell_of_row _ _ _ _ _ (0, 0) r0, cell_of_row _ _ _ _ _ (0, 0) r0, cell_of_row _ _ _ _ _ (0, 0) r0, cell_of_row _ _ _ _ _ (0, 0) r0, cell_of_row _ _ _ _ _ (0, 0) r1, cell_of_row _ _ _ _ _ (0, 0) r1, cell_of_row _ _ _ _ _ (0, 0) r1, cell_of_row _ _ _ _ _ (0, 0) r1, cell_of_row _ _ _ _ _ (0, 0) r1⟩
    clear hW0
    refine (F1.out W0 HBW.out).mono ?_
    rintro e w1 ⟨rfl, hb1⟩
    obtain ⟨a0, a1, a2, a3, a4, a5, a6, a7, a8, a9, a10, a11, a12⟩ := HB.out w1 hb1
    have HX := Lib.hid hb1
    clear hb1
    go_wp2_with fail
    clear a0 a1 a2 a3 a4 a5 a6 a7 a8 a9 a10 a11 a12
    refine (F2.out w1 (HBW.out.trans (HX.out.mono (by omega)))).mono ?_
    rintro e w2 ⟨rfl, hb2⟩
    have hx2 := HX.out.trans (hb2.mono HX.out.size)
    obtain ⟨a0, a1, a2, a3, a4, a5, a6, a7, a8, a9, a10, a11, a12⟩ := HB.out w2 hx2
    have HX := Lib.hid hx2
    clear hb2 hx2
    go_wp2_with fail
    go_ret
    exact ⟨rfl, HBW.out.trans (HX.out.mono (by omega))⟩
  | true =>
  cases hk : inB 0 8 kind with
  | false =>
    obtain rfl : HD = false := by rw [HHS.out, hk]; rfl
    obtain rfl : R = false := by rw [HIS.out]; rfl
    go_enter Try.func31, Try.ntmps31
    go_wp2_with fail
    obtain ⟨W0, hW0⟩ : ∃ W0, W0 = (w.alloc (.cells #[.int .i64 f, .int .i64 d, .int .i64 r, .int .i64 p, .float .f64 e1, .float .f64 e2, .float .f64 e3, .slice A cs.length cap] 25)).alloc (.cells #[.int .u32 pu, .int .u32 pd, .int .i64 kind, .int .i64 car, .slice A' ys.length cp] 33) := ⟨_, rfl⟩
    rw [← hW0]
    have hs0 : W0.heap.size = w.heap.size + 2 := by rw [hW0]; simp
    have HBW : Hid (Below w.heap.size w W0) := by rw [hW0]; exact ((Below.refl _ _).alloc (Nat.le_refl _) _).alloc (by simp) _
    have HB : Hid (∀ wx, Below W0.heap.size W0 wx → wx.cell? ⟨w.heap.size, 0, none⟩ = some (.int .i64 f) ∧ wx.cell? ⟨w.heap.size, 1, none⟩ = some (.int .i64 d) ∧ wx.cell? ⟨w.heap.size, 2, none⟩ = some (.int .i64 r) ∧ wx.cell? ⟨w.heap.size, 3, none⟩ = some (.int .i64 p) ∧ wx.cell? ⟨w.heap.size, 4, none⟩ = some (.float .f64 e1) ∧ wx.cell? ⟨w.heap.size, 5, none⟩ = some (.float .f64 e2) ∧ wx.cell? ⟨w.heap.size, 6, none⟩ = some (.float .f64 e3) ∧ wx.cell? ⟨w.heap.size, 7, none⟩ = some (.slice A cs.length cap) ∧ wx.cell? ⟨w.heap.size + 1, 0, none⟩ = some (.int .u32 pu) ∧ wx.cell? ⟨w.heap.size + 1, 1, none⟩ = some (.int .u32 pd) ∧ wx.cell? ⟨w.heap.size + 1, 2, none⟩ = some (.int .i64 kind) ∧ wx.cell? ⟨w.heap.size + 1, 3, none⟩ = some (.int .i64 car) ∧ wx.cell? ⟨w.heap.size + 1, 4, none⟩ = some (.slice A' ys.length cp)) := fun wx h => by
      have r0 : wx.heap[w.heap.size]? = some (.cells #[.int .i64 f, .int .i64 d, .int .i64 r, .int .i64 p, .float .f64 e1, .float .f64 e2, .float .f64 e3, .slice A cs.length cap] 25 (0, 0)) := (h.block _ (by omega)).trans (by rw [hW0]; exact (Below.heap_alloc _ _ _ (by simp)).trans (heap_alloc_new w _))
      have r1 : wx.heap[w.heap.size + 1]? = some (.cells #[.int .u32 pu, .int .u32 pd, .int .i64 kind, .int .i64 car, .slice A' ys.length cp] 33 (0, 0)) := (h.block _ (by omega)).trans (by
        rw [hW0]
        have h := heap_alloc_new (w.alloc (.cells #[.int .i64 f, .int .i64 d, .int .i64 r, .int .i64 p, .float .f64 e1, .float .f64 e2, .float .f64 e3, .slice A cs.length cap] 25)) (.cells #[.int .u32 pu, .int .u32 pd, .int .i64 kind, .int .i64 car, .slice A' ys.length cp] 33)
        have e : (w.alloc (.cells #[.int .i64 f, .int .i64 d, .int .i64 r, .int .i64 p, .float .f64 e1, .float .f64 e2, .float .f64 e3, .slice A cs.length cap] 25)).heap.size = w.heap.size + 1 := by simp
        rw [e] at h
        exact h)
      exact ⟨cell_of_row _ _ _ _ _ (0, 0) r0, cell_of_row _ _ _ _ _ (0, 0) r0, cell_of_row _ _ _ _ _ (0, 0) r0, cell_of_row _ _ _ _ _ (0, 0) r0, cell_of_row _ _ _ _ _ (0, 0) r0, cell_of_row _ _ _ _ _ (0, 0) r0, cell_of_row _ _ _ _ _ (0, 0) r0, cell_of_row _ _ _ _ _ (0, 0) r0, cell_of_row _ _ _ _ _ (0, 0) r1, cell_of_row _ _ _ _ _ (0, 0) r1, cell_of_row _ _ _ _ _ (0, 0) r1, cell_of_row _ _ _ _ _ (0, 0) r1, cell_of_row _ _ _ _ _ (0, 0) r1⟩
    clear hW0
    refine (F1.out W0 HBW.out).mono ?_
    rintro e w1 ⟨rfl, hb1⟩
    obtain ⟨a0, a1, a2, a3, a4, a5, a6, a7, a8, a9, a10, a11, a12⟩ := HB.out w1 hb1
    have HX := Lib.hid hb1
    clear hb1
    go_wp2_with fail
    clear a0 a1 a2 a3 a4 a5 a6 a7 a8 a9 a10 a11 a12
    refine (F2.out w1 (HBW.out.trans (HX.out.mono (by omega)))).mono ?_
    rintro e w2 ⟨rfl, hb2⟩
    have hx2 := HX.out.trans (hb2.mono HX.out.size)
    obtain ⟨a0, a1, a2, a3, a4, a5, a6, a7, a8, a9, a10, a11, a12⟩ := HB.out w2 hx2
    have HX := Lib.hid hx2
    clear hb2 hx2
    go_wp2_with fail
    clear a0 a1 a2 a3 a4 a5 a6 a7 a8 a9 a10 a11 a12
    refine (refBetween_any kind 0 8 _).mono ?_
    rintro e w3 ⟨rfl, rfl⟩
    rw [hk]
    obtain ⟨a0, a1, a2, a3, a4, a5, a6, a7, a8, a9, a10, a11, a12⟩ := HB.out w3 HX.out
    go_wp2_with fail
    go_ret
    exact ⟨rfl, HBW.out.trans (HX.out.mono (by omega))⟩
  | true =>
  cases hr : inB 0 ((cs.length : Int) - 1) car with
  | false =>
    obtain rfl : HD = false := by rw [HHS.out, hk, hr]; rfl
    obtain rfl : R = false := by rw [HIS.out]; rfl
    go_enter Try.func31, Try.ntmps31
    go_wp2_with fail
    obtain ⟨W0, hW0⟩ : ∃ W0, W0 = (w.alloc (.cells #[.int .i64 f, .int .i64 d, .int .i64 r, .int .i64 p, .float .f64 e1, .float .f64 e2, .float .f64 e3, .slice A cs.length cap] 25)).alloc (.cells #[.int .u32 pu, .int .u32 pd, .int .i64 kind, .int .i64 car, .slice A' ys.length cp] 33) := ⟨_, rfl⟩
    rw [← hW0]
    have hs0 : W0.heap.size = w.heap.size + 2 := by rw [hW0]; simp
    have HBW : Hid (Below w.heap.size w W0) := by rw [hW0]; exact ((Below.refl _ _).alloc (Nat.le_refl _) _).alloc (by simp) _
    have HB : Hid (∀ wx, Below W0.heap.size W0 wx → wx.cell? ⟨w.heap.size, 0, none⟩ = some (.int .i64 f) ∧ wx.cell? ⟨w.heap.size, 1, none⟩ = some (.int .i64 d) ∧ wx.cell? ⟨w.heap.size, 2, none⟩ = some (.int .i64 r) ∧ wx.cell? ⟨w.heap.size, 3, none⟩ = some (.int .i64 p) ∧ wx.cell? ⟨w.heap.size, 4, none⟩ = some (.float .f64 e1) ∧ wx.cell? ⟨w.heap.size, 5, none⟩ = some (.float .f64 e2) ∧ wx.cell? ⟨w.heap.size, 6, none⟩ = some (.float .f64 e3) ∧ wx.cell? ⟨w.heap.size, 7, none⟩ = some (.slice A cs.length cap) ∧ wx.cell? ⟨w.heap.size + 1, 0, none⟩ = some (.int .u32 pu) ∧ wx.cell? ⟨w.heap.size + 1, 1, none⟩ = some (.int .u32 pd) ∧ wx.cell? ⟨w.heap.size + 1, 2, none⟩ = some (.int .i64 kind) ∧ wx.cell? ⟨w.heap.size + 1, 3, none⟩ = some (.int .i64 car) ∧ wx.cell? ⟨w.heap.size + 1, 4, none⟩ = some (.slice A' ys.length cp)) := fun wx h => by
      have r0 : wx.heap[w.heap.size]? = some (.cells #[.int .i64 f, .int .i64 d, .int .i64 r, .int .i64 p, .float .f64 e1, .float .f64 e2, .float .f64 e3, .slice A cs.length cap] 25 (0, 0)) := (h.block _ (by omega)).trans (by rw [hW0]; exact (Below.heap_alloc _ _ _ (by simp)).trans (heap_alloc_new w _))
      have r1 : wx.heap[w.heap.size + 1]? = some (.cells #[.int .u32 pu, .int .u32 pd, .int .i64 kind, .int .i64 car, .slice A' ys.length cp] 33 (0, 0)) := (h.block _ (by omega)).trans (by
        rw [hW0]
        have h := heap_alloc_new (w.alloc (.cells #[.int .i64 f, .int .i64 d, .int .i64 r, .int .i64 p, .float .f64 e1, .float .f64 e2, .float .f64 e3, .slice A cs.length cap] 25)) (.cells #[.int .u32 pu, .int .u32 pd, .int .i64 kind, .int .i64 car, .slice A' ys.length cp] 33)
        have e : (w.alloc (.cells #[.int .i64 f, .int .i64 d, .int .i64 r, .int .i64 p, .float .f64 e1, .float .f64 e2, .float .f64 e3, .slice A cs.length cap] 25)).heap.size = w.heap.size + 1 := by simp
        rw [e] at h
        exact h)
      exact ⟨cell_of_row _ _ _ _ _ (0, 0) r0, cell_of_row _ _ _ _ _ (0, 0) r0, cell_of_row _ _ _ _ _ (0, 0) r0, cell_of_row _ _ _ _ _ (0, 0) r0, cell_of_row _ _ _ _ _ (0, 0) r0, cell_of_row _ _ _ _ _ (0, 0) r0, cell_of_row _ _ _ _ _ (0, 0) r0, cell_of_row _ _ _ _ _ (0, 0) r0, cell_of_row _ _ _ _ _ (0, 0) r1, cell_of_row _ _ _ _ _ (0, 0) r1, cell_of_row _ _ _ _ _ (0, 0) r1, cell_of_row _ _ _ _ _ (0, 0) r1, cell_of_row _ _ _ _ _ (0, 0) r1⟩
    clear hW0
    refine (F1.out W0 HBW.out).mono ?_
    rintro e w1 ⟨rfl, hb1⟩
    obtain ⟨a0, a1, a2, a3, a4, a5, a6, a7, a8, a9, a10, a11, a12⟩ := HB.out w1 hb1
    have HX := Lib.hid hb1
    clear hb1
    go_wp2_with fail
    clear a0 a1 a2 a3 a4 a5 a6 a7 a8 a9 a10 a11 a12
    refine (F2.out w1 (HBW.out.trans (HX.out.mono (by omega)))).mono ?_
    rintro e w2 ⟨rfl, hb2⟩
    have hx2 := HX.out.trans (hb2.mono HX.out.size)
    obtain ⟨a0, a1, a2, a3, a4, a5, a6, a7, a8, a9, a10, a11, a12⟩ := HB.out w2 hx2
    have HX := Lib.hid hx2
    clear hb2 hx2
    go_wp2_with fail
    clear a0 a1 a2 a3 a4 a5 a6 a7 a8 a9 a10 a11 a12
    refine (refBetween_any kind 0 8 _).mono ?_
    rintro e w3 ⟨rfl, rfl⟩
    rw [hk]
    obtain ⟨a0, a1, a2, a3, a4, a5, a6, a7, a8, a9, a10, a11, a12⟩ := HB.out w3 HX.out
    go_wp2_with fail
    clear a0 a1 a2 a3 a4 a5 a6 a7 a8 a9 a10 a11 a12
    refine (refBetween_any car 0 ((cs.length : Int) - 1) _).mono ?_
    rintro e w4 ⟨rfl, rfl⟩
    rw [hr]
    obtain ⟨a0, a1, a2, a3, a4, a5, a6, a7, a8, a9, a10, a11, a12⟩ := HB.out w4 HX.out
    go_wp2_with fail
    go_ret
    exact ⟨rfl, HBW.out.trans (HX.out.mono (by omega))⟩
  | true =>
  cases hz : (kind == 0 && car != 0) with
  | true =>
    obtain rfl : HD = false := by rw [HHS.out, hk, hr, hz]; rfl
    obtain rfl : R = false := by rw [HIS.out]; rfl
    rw [Bool.and_eq_true] at hz
    obtain ⟨hz1, hz2⟩ := hz
    go_enter Try.func31, Try.ntmps31
    go_wp2_with fail
    obtain ⟨W0, hW0⟩ : ∃ W0, W0 = (w.alloc (.cells #[.int .i64 f, .int .i64 d, .int .i64 r, .int .i64 p, .float .f64 e1, .float .f64 e2, .float .f64 e3, .slice A cs.length cap] 25)).alloc (.cells #[.int .u32 pu, .int .u32 pd, .int .i64 kind, .int .i64 car, .slice A' ys.length cp] 33) := ⟨_, rfl⟩
    rw [← hW0]
    have hs0 : W0.heap.size = w.heap.size + 2 := by rw [hW0]; simp
    have HBW : Hid (Below w.heap.size w W0) := by rw [hW0]; exact ((Below.refl _ _).alloc (Nat.le_refl _) _).alloc (by simp) _
    have HB : Hid (∀ wx, Below W0.heap.size W0 wx → wx.cell? ⟨w.heap.size, 0, none⟩ = some (.int .i64 f) ∧ wx.cell? ⟨w.heap.size, 1, none⟩ = some (.int .i64 d) ∧ wx.cell? ⟨w.heap.size, 2, none⟩ = some (.int .i64 r) ∧ wx.cell? ⟨w.heap.size, 3, none⟩ = some (.int .i64 p) ∧ wx.cell? ⟨w.heap.size, 4, none⟩ = some (.float .f64 e1) ∧ wx.cell? ⟨w.heap.size, 5, none⟩ = some (.float .f64 e2) ∧ wx.cell? ⟨w.heap.size, 6, none⟩ = some (.float .f64 e3) ∧ wx.cell? ⟨w.heap.size, 7, none⟩ = some (.slice A cs.length cap) ∧ wx.cell? ⟨w.heap.size + 1, 0, none⟩ = some (.int .u32 pu) ∧ wx.cell? ⟨w.heap.size + 1, 1, none⟩ = some (.int .u32 pd) ∧ wx.cell? ⟨w.heap.size + 1, 2, none⟩ = some (.int .i64 kind) ∧ wx.cell? ⟨w.heap.size + 1, 3, none⟩ = some (.int .i64 car) ∧ wx.cell? ⟨w.heap.size + 1, 4, none⟩ = some (.slice A' ys.length cp)) := fun wx h => by
      have r0 : wx.heap[w.heap.size]? = some (.cells #[.int .i64 f, .int .i64 d, .int .i64 r, .int .i64 p, .float .f64 e1, .float .f64 e2, .float .f64 e3, .slice A cs.length cap] 25 (0, 0)) := (h.block _ (by omega)).trans (by rw [hW0]; exact (Below.heap_alloc _ _ _ (by simp)).trans (heap_alloc_new w _))
      have r1 : wx.heap[w.heap.size + 1]? = some (.cells #[.int .u32 pu, .int .u32 pd, .int .i64 kind, .int .i64 car, .slice A' ys.length cp] 33 (0, 0)) := (h.block _ (by omega)).trans (by
        rw [hW0]
        have h := heap_alloc_new (w.alloc (.cells #[.int .i64 f, .int .i64 d, .int .i64 r, .int .i64 p, .float .f64 e1, .float .f64 e2, .float .f64 e3, .slice A cs.length cap] 25)) (.cells #[.int .u32 pu, .int .u32 pd, .int .i64 kind, .int .i64 car, .slice A' ys.length cp] 33)
        have e : (w.alloc (.cells #[.int .i64 f, .int .i64 d, .int .i64 r, .int .i64 p, .float .f64 e1, .float .f64 e2, .float .f64 e3, .slice A cs.length cap] 25)).heap.size = w.heap.size + 1 := by simp
        rw [e] at h
        exact h)
      exact ⟨cell_of_row _ _ _ _ _ (0, 0) r0, cell_of_row _ _ _ _ _ (0, 0) r0, cell_of_row _ _ _ _ _ (0, 0) r0, cell_of_row _ _ _ _ _ (0, 0) r0, cell_of_row _ _ _ _ _ (0, 0) r0, cell_of_row _ _ _ _ _ (0, 0) r0, cell_of_row _ _ _ _ _ (0, 0) r0, cell_of_row _ _ _ _ _ (0, 0) r0, cell_of_row _ _ _ _ _ (0, 0) r1, cell_of_row _ _ _ _ _ (0, 0) r1, cell_of_row _ _ _ _ _ (0, 0) r1, cell_of_row _ _ _ _ _ (0, 0) r1, cell_of_row _ _ _ _ _ (0, 0) r1⟩
    clear hW0
    refine (F1.out W0 HBW.out).mono ?_
    rintro e w1 ⟨rfl, hb1⟩
    obtain ⟨a0, a1, a2, a3, a4, a5, a6, a7, a8, a9, a10, a11, a12⟩ := HB.out w1 hb1
    have HX := Lib.hid hb1
    clear hb1
    go_wp2_with fail
    clear a0 a1 a2 a3 a4 a5 a6 a7 a8 a9 a10 a11 a12
    refine (F2.out w1 (HBW.out.trans (HX.out.mono (by omega)))).mono ?_
    rintro e w2 ⟨rfl, hb2⟩
    have hx2 := HX.out.trans (hb2.mono HX.out.size)
    obtain ⟨a0, a1, a2, a3, a4, a5, a6, a7, a8, a9, a10, a11, a12⟩ := HB.out w2 hx2
    have HX := Lib.hid hx2
    clear hb2 hx2
    go_wp2_with fail
    clear a0 a1 a2 a3 a4 a5 a6 a7 a8 a9 a10 a11 a12
    refine (refBetween_any kind 0 8 _).mono ?_
    rintro e w3 ⟨rfl, rfl⟩
    rw [hk]
    obtain ⟨a0, a1, a2, a3, a4, a5, a6, a7, a8, a9, a10, a11, a12⟩ := HB.out w3 HX.out
    go_wp2_with fail
    clear a0 a1 a2 a3 a4 a5 a6 a7 a8 a9 a10 a11 a12
    refine (refBetween_any car 0 ((cs.length : Int) - 1) _).mono ?_
    rintro e w4 ⟨rfl, rfl⟩
    rw [hr]
    obtain ⟨a0, a1, a2, a3, a4, a5, a6, a7, a8, a9, a10, a11, a12⟩ := HB.out w4 HX.out
    go_wp2_with fail
    go_ret
    exact ⟨rfl, HBW.out.trans (HX.out.mono (by omega))⟩
  | false =>
  by_cases hl : (ys.length : Int) = (cs.length : Int)
  case neg =>
    have hlb : ((ys.length : Int) != (cs.length : Int)) = true := bne_iff_ne.2 hl
    obtain rfl : HD = false := by rw [HHS.out, hk, hr, hz, decide_eq_false hl]; rfl
    obtain rfl : R = false := by rw [HIS.out]; rfl
    clear hl
    cases hz1 : (kind == 0) with
    | false =>
      go_enter Try.func31, Try.ntmps31
      go_wp2_with fail
      obtain ⟨W0, hW0⟩ : ∃ W0, W0 = (w.alloc (.cells #[.int .i64 f, .int .i64 d, .int .i64 r, .int .i64 p, .float .f64 e1, .float .f64 e2, .float .f64 e3, .slice A cs.length cap] 25)).alloc (.cells #[.int .u32 pu, .int .u32 pd, .int .i64 kind, .int .i64 car, .slice A' ys.length cp] 33) := ⟨_, rfl⟩
      rw [← hW0]
      have hs0 : W0.heap.size = w.heap.size + 2 := by rw [hW0]; simp
      have HBW : Hid (Below w.heap.size w W0) := by rw [hW0]; exact ((Below.refl _ _).alloc (Nat.le_refl _) _).alloc (by simp) _
      have HB : Hid (∀ wx, Below W0.heap.size W0 wx → wx.cell? ⟨w.heap.size, 0, none⟩ = some (.int .i64 f) ∧ wx.cell? ⟨w.heap.size, 1, none⟩ = some (.int .i64 d) ∧ wx.cell? ⟨w.heap.size, 2, none⟩ = some (.int .i64 r) ∧ wx.cell? ⟨w.heap.size, 3, none⟩ = some (.int .i64 p) ∧ wx.cell? ⟨w.heap.size, 4, none⟩ = some (.float .f64 e1) ∧ wx.cell? ⟨w.heap.size, 5, none⟩ = some (.float .f64 e2) ∧ wx.cell? ⟨w.heap.size, 6, none⟩ = some (.float .f64 e3) ∧ wx.cell? ⟨w.heap.size, 7, none⟩ = some (.slice A cs.length cap) ∧ wx.cell? ⟨w.heap.size + 1, 0, none⟩ = some (.int .u32 pu) ∧ wx.cell? ⟨w.heap.size + 1, 1, none⟩ = some (.int .u32 pd) ∧ wx.cell? ⟨w.heap.size + 1, 2, none⟩ = some (.int .i64 kind) ∧ wx.cell? ⟨w.heap.size + 1, 3, none⟩ = some (.int .i64 car) ∧ wx.cell? ⟨w.heap.size + 1, 4, none⟩ = some (.slice A' ys.length cp)) := fun wx h => by
        have r0 : wx.heap[w.heap.size]? = some (.cells #[.int .i64 f, .int .i64 d, .int .i64 r, .int .i64 p, .float .f64 e1, .float .f64 e2, .float .f64 e3, .slice A cs.length cap] 25 (0, 0)) := (h.block _ (by omega)).trans (by rw [hW0]; exact (Below.heap_alloc _ _ _ (by simp)).trans (heap_alloc_new w _))
        have r1 : wx.heap[w.heap.size + 1]? = some (.cells #[.int .u32 pu, .int .u32 pd, .int .i64 kind, .int .i64 car, .slice A' ys.length cp] 33 (0, 0)) := (h.block _ (by omega)).trans (by
          rw [hW0]
          have h := heap_alloc_new (w.alloc (.cells #[.int .i64 f, .int .i64 d, .int .i64 r, .int .i64 p, .float .f64 e1, .float .f64 e2, .float .f64 e3, .slice A cs.length cap] 25)) (.cells #[.int .u32 pu, .int .u32 pd, .int .i64 kind, .int .i64 car, .slice A' ys.length cp] 33)
          have e : (w.alloc (.cells #[.int .i64 f, .int .i64 d, .int .i64 r, .int .i64 p, .float .f64 e1, .float .f64 e2, .float .f64 e3, .slice A cs.length cap] 25)).heap.size = w.heap.size + 1 := by simp
          rw [e] at h
          exact h)
        exact ⟨cell_of_row _ _ _ _ _ (0, 0) r0, cell_of_row _ _ _ _ _ (0, 0) r0, cell_of_row _ _ _ _ _ (0, 0) r0, cell_of_row _ _ _ _ _ (0, 0) r0, cell_of_row _ _ _ _ _ (0, 0) r0, cell_of_row _ _ _ _ _ (0, 0) r0, cell_of_row _ _ _ _ _ (0, 0) r0, cell_of_row _ _ _ _ _ (0, 0) r0, cell_of_row _ _ _ _ _ (0, 0) r1, cell_of_row _ _ _ _ _ (0, 0) r1, cell_of_row _ _ _ _ _ (0, 0) r1, cell_of_row _ _ _ _ _ (0, 0) r1, cell_of_row _ _ _ _ _ (0, 0) r1⟩
      clear hW0
      refine (F1.out W0 HBW.out).mono ?_
      rintro e w1 ⟨rfl, hb1⟩
      obtain ⟨a0, a1, a2, a3, a4, a5, a6, a7, a8, a9, a10, a11, a12⟩ := HB.out w1 hb1
      have HX := Lib.hid hb1
      clear hb1
      go_wp2_with fail
      clear a0 a1 a2 a3 a4 a5 a6 a7 a8 a9 a10 a11 a12
      refine (F2.out w1 (HBW.out.trans (HX.out.mono (by omega)))).mono ?_
      rintro e w2 ⟨rfl, hb2⟩
      have hx2 := HX.out.trans (hb2.mono HX.out.size)
      obtain ⟨a0, a1, a2, a3, a4, a5, a6, a7, a8, a9, a10, a11, a12⟩ := HB.out w2 hx2
      have HX := Lib.hid hx2
      clear hb2 hx2
      go_wp2_with fail
      clear a0 a1 a2 a3 a4 a5 a6 a7 a8 a9 a10 a11 a12
      refine (refBetween_any kind 0 8 _).mono ?_
      rintro e w3 ⟨rfl, rfl⟩
      rw [hk]
      obtain ⟨a0, a1, a2, a3, a4, a5, a6, a7, a8, a9, a10, a11, a12⟩ := HB.out w3 HX.out
      go_wp2_with fail
      clear a0 a1 a2 a3 a4 a5 a6 a7 a8 a9 a10 a11 a12
      refine (refBetween_any car 0 ((cs.length : Int) - 1) _).mono ?_
      rintro e w4 ⟨rfl, rfl⟩
      rw [hr]
      obtain ⟨a0, a1, a2, a3, a4, a5, a6, a7, a8, a9, a10, a11, a12⟩ := HB.out w4 HX.out
      go_wp2_with fail
      go_ret
      exact ⟨rfl, HBW.out.trans (HX.out.mono (by omega))⟩

    | true =>
      have hz2 : (car != 0) = false := by rw [hz1] at hz; exact hz
      go_enter Try.func31, Try.ntmps31
      go_wp2_with fail
      obtain ⟨W0, hW0⟩ : ∃ W0, W0 = (w.alloc (.cells #[.int .i64 f, .int .i64 d, .int .i64 r, .int .i64 p, .float .f64 e1, .float .f64 e2, .float .f64 e3, .slice A cs.length cap] 25)).alloc (.cells #[.int .u32 pu, .int .u32 pd, .int .i64 kind, .int .i64 car, .slice A' ys.length cp] 33) := ⟨_, rfl⟩
      rw [← hW0]
      have hs0 : W0.heap.size = w.heap.size + 2 := by rw [hW0]; simp
      have HBW : Hid (Below w.heap.size w W0) := by rw [hW0]; exact ((Below.refl _ _).alloc (Nat.le_refl _) _).alloc (by simp) _
      have HB : Hid (∀ wx, Below W0.heap.size W0 wx → wx.cell? ⟨w.heap.size, 0, none⟩ = some (.int .i64 f) ∧ wx.cell? ⟨w.heap.size, 1, none⟩ = some (.int .i64 d) ∧ wx.cell? ⟨w.heap.size, 2, none⟩ = some (.int .i64 r) ∧ wx.cell? ⟨w.heap.size, 3, none⟩ = some (.int .i64 p) ∧ wx.cell? ⟨w.heap.size, 4, none⟩ = some (.float .f64 e1) ∧ wx.cell? ⟨w.heap.size, 5, none⟩ = some (.float .f64 e2) ∧ wx.cell? ⟨w.heap.size, 6, none⟩ = some (.float .f64 e3) ∧ wx.cell? ⟨w.heap.size, 7, none⟩ = some (.slice A cs.length cap) ∧ wx.cell? ⟨w.heap.size + 1, 0, none⟩ = some (.int .u32 pu) ∧ wx.cell? ⟨w.heap.size + 1, 1, none⟩ = some (.int .u32 pd) ∧ wx.cell? ⟨w.heap.size + 1, 2, none⟩ = some (.int .i64 kind) ∧ wx.cell? ⟨w.heap.size + 1, 3, none⟩ = some (.int .i64 car) ∧ wx.cell? ⟨w.heap.size + 1, 4, none⟩ = some (.slice A' ys.length cp)) := fun wx h => by
        have r0 : wx.heap[w.heap.size]? = some (.cells #[.int .i64 f, .int .i64 d, .int .i64 r, .int .i64 p, .float .f64 e1, .float .f64 e2, .float .f64 e3, .slice A cs.length cap] 25 (0, 0)) := (h.block _ (by omega)).trans (by rw [hW0]; exact (Below.heap_alloc _ _ _ (by simp)).trans (heap_alloc_new w _))
        have r1 : wx.heap[w.heap.size + 1]? = some (.cells #[.int .u32 pu, .int .u32 pd, .int .i64 kind, .int .i64 car, .slice A' ys.length cp] 33 (0, 0)) := (h.block _ (by omega)).trans (by
          rw [hW0]
          have h := heap_alloc_new (w.alloc (.cells #[.int .i64 f, .int .i64 d, .int .i64 r, .int .i64 p, .float .f64 e1, .float .f64 e2, .float .f64 e3, .slice A cs.length cap] 25)) (.cells #[.int .u32 pu, .int .u32 pd, .int .i64 kind, .int .i64 car, .slice A' ys.length cp] 33)
          have e : (w.alloc (.cells #[.int .i64 f, .int .i64 d, .int .i64 r, .int .i64 p, .float .f64 e1, .float .f64 e2, .float .f64 e3, .slice A cs.length cap] 25)).heap.size = w.heap.size + 1 := by simp
          rw [e] at h
          exact h)
        exact ⟨cell_of_row _ _ _ _ _ (0, 0) r0, cell_of_row _ _ _ _ _ (0, 0) r0, cell_of_row _ _ _ _ _ (0, 0) r0, cell_of_row _ _ _ _ _ (0, 0) r0, cell_of_row _ _ _ _ _ (0, 0) r0, cell_of_row _ _ _ _ _ (0, 0) r0, cell_of_row _ _ _ _ _ (0, 0) r0, cell_of_row _ _ _ _ _ (0, 0) r0, cell_of_row _ _ _ _ _ (0, 0) r1, cell_of_row _ _ _ _ _ (0, 0) r1, cell_of_row _ _ _ _ _ (0, 0) r1, cell_of_row _ _ _ _ _ (0, 0) r1, cell_of_row _ _ _ _ _ (0, 0) r1⟩
      clear hW0
      refine (F1.out W0 HBW.out).mono ?_
      rintro e w1 ⟨rfl, hb1⟩
      obtain ⟨a0, a1, a2, a3, a4, a5, a6, a7, a8, a9, a10, a11, a12⟩ := HB.out w1 hb1
      have HX := Lib.hid hb1
      clear hb1
      go_wp2_with fail
      clear a0 a1 a2 a3 a4 a5 a6 a7 a8 a9 a10 a11 a12
      refine (F2.out w1 (HBW.out.trans (HX.out.mono (by omega)))).mono ?_
      rintro e w2 ⟨rfl, hb2⟩
      have hx2 := HX.out.trans (hb2.mono HX.out.size)
      obtain ⟨a0, a1, a2, a3, a4, a5, a6, a7, a8, a9, a10, a11, a12⟩ := HB.out w2 hx2
      have HX := Lib.hid hx2
      clear hb2 hx2
      go_wp2_with fail
      clear a0 a1 a2 a3 a4 a5 a6 a7 a8 a9 a10 a11 a12
      refine (refBetween_any kind 0 8 _).mono ?_
      rintro e w3 ⟨rfl, rfl⟩
      rw [hk]
      obtain ⟨a0, a1, a2, a3, a4, a5, a6, a7, a8, a9, a10, a11, a12⟩ := HB.out w3 HX.out
      go_wp2_with fail
      clear a0 a1 a2 a3 a4 a5 a6 a7 a8 a9 a10 a11 a12
      refine (refBetween_any car 0 ((cs.length : Int) - 1) _).mono ?_
      rintro e w4 ⟨rfl, rfl⟩
      rw [hr]
      obtain ⟨a0, a1, a2, a3, a4, a5, a6, a7, a8, a9, a10, a11, a12⟩ := HB.out w4 HX.out
      go_wp2_with fail
      go_ret
      exact ⟨rfl, HBW.out.trans (HX.out.mono (by omega))⟩
  have hlb : ((ys.length : Int) != (cs.length : Int)) = false := bne_eq_false_iff_eq.2 hl
  have hfw : IntKind.i64.wrap (f - 1) = f - 1 := IntWalk.i64_in _ (by omega)
  cases hz1 : (kind == 0)
  case' true => have hz2 : (car != 0) = false := by rw [hz1] at hz; exact hz
  all_goals
      go_enter Try.func31, Try.ntmps31
      go_wp2_with fail
      obtain ⟨W0, hW0⟩ : ∃ W0, W0 = (w.alloc (.cells #[.int .i64 f, .int .i64 d, .int .i64 r, .int .i64 p, .float .f64 e1, .float .f64 e2, .float .f64 e3, .slice A cs.length cap] 25)).alloc (.cells #[.int .u32 pu, .int .u32 pd, .int .i64 kind, .int .i64 car, .slice A' ys.length cp] 33) := ⟨_, rfl⟩
      rw [← hW0]
      have hs0 : W0.heap.size = w.heap.size + 2 := by rw [hW0]; simp
      have HBW : Hid (Below w.heap.size w W0) := by rw [hW0]; exact ((Below.refl _ _).alloc (Nat.le_refl _) _).alloc (by simp) _
      have HB : Hid (∀ wx, Below W0.heap.size W0 wx → wx.cell? ⟨w.heap.size, 0, none⟩ = some (.int .i64 f) ∧ wx.cell? ⟨w.heap.size, 1, none⟩ = some (.int .i64 d) ∧ wx.cell? ⟨w.heap.size, 2, none⟩ = some (.int .i64 r) ∧ wx.cell? ⟨w.heap.size, 3, none⟩ = some (.int .i64 p) ∧ wx.cell? ⟨w.heap.size, 4, none⟩ = some (.float .f64 e1) ∧ wx.cell? ⟨w.heap.size, 5, none⟩ = some (.float .f64 e2) ∧ wx.cell? ⟨w.heap.size, 6, none⟩ = some (.float .f64 e3) ∧ wx.cell? ⟨w.heap.size, 7, none⟩ = some (.slice A cs.length cap) ∧ wx.cell? ⟨w.heap.size + 1, 0, none⟩ = some (.int .u32 pu) ∧ wx.cell? ⟨w.heap.size + 1, 1, none⟩ = some (.int .u32 pd) ∧ wx.cell? ⟨w.heap.size + 1, 2, none⟩ = some (.int .i64 kind) ∧ wx.cell? ⟨w.heap.size + 1, 3, none⟩ = some (.int .i64 car) ∧ wx.cell? ⟨w.heap.size + 1, 4, none⟩ = some (.slice A' ys.length cp)) := fun wx h => by
        have r0 : wx.heap[w.heap.size]? = some (.cells #[.int .i64 f, .int .i64 d, .int .i64 r, .int .i64 p, .float .f64 e1, .float .f64 e2, .float .f64 e3, .slice A cs.length cap] 25 (0, 0)) := (h.block _ (by omega)).trans (by rw [hW0]; exact (Below.heap_alloc _ _ _ (by simp)).trans (heap_alloc_new w _))
        have r1 : wx.heap[w.heap.size + 1]? = some (.cells #[.int .u32 pu, .int .u32 pd, .int .i64 kind, .int .i64 car, .slice A' ys.length cp] 33 (0, 0)) := (h.block _ (by omega)).trans (by
          rw [hW0]
          have h := heap_alloc_new (w.alloc (.cells #[.int .i64 f, .int .i64 d, .int .i64 r, .int .i64 p, .float .f64 e1, .float .f64 e2, .float .f64 e3, .slice A cs.length cap] 25)) (.cells #[.int .u32 pu, .int .u32 pd, .int .i64 kind, .int .i64 car, .slice A' ys.length cp] 33)
          have e : (w.alloc (.cells #[.int .i64 f, .int .i64 d, .int .i64 r, .int .i64 p, .float .f64 e1, .float .f64 e2, .float .f64 e3, .slice A cs.length cap] 25)).heap.size = w.heap.size + 1 := by simp
          rw [e] at h
          exact h)
        exact ⟨cell_of_row _ _ _ _ _ (0, 0) r0, cell_of_row _ _ _ _ _ (0, 0) r0, cell_of_row _ _ _ _ _ (0, 0) r0, cell_of_row _ _ _ _ _ (0, 0) r0, cell_of_row _ _ _ _ _ (0, 0) r0, cell_of_row _ _ _ _ _ (0, 0) r0, cell_of_row _ _ _ _ _ (0, 0) r0, cell_of_row _ _ _ _ _ (0, 0) r0, cell_of_row _ _ _ _ _ (0, 0) r1, cell_of_row _ _ _ _ _ (0, 0) r1, cell_of_row _ _ _ _ _ (0, 0) r1, cell_of_row _ _ _ _ _ (0, 0) r1, cell_of_row _ _ _ _ _ (0, 0) r1⟩
      clear hW0
      refine (F1.out W0 HBW.out).mono ?_
      rintro e w1 ⟨rfl, hb1⟩
      obtain ⟨a0, a1, a2, a3, a4, a5, a6, a7, a8, a9, a10, a11, a12⟩ := HB.out w1 hb1
      have HX := Lib.hid hb1
      clear hb1
      go_wp2_with fail
      clear a0 a1 a2 a3 a4 a5 a6 a7 a8 a9 a10 a11 a12
      refine (F2.out w1 (HBW.out.trans (HX.out.mono (by omega)))).mono ?_
      rintro e w2 ⟨rfl, hb2⟩
      have hx2 := HX.out.trans (hb2.mono HX.out.size)
      obtain ⟨a0, a1, a2, a3, a4, a5, a6, a7, a8, a9, a10, a11, a12⟩ := HB.out w2 hx2
      have HX := Lib.hid hx2
      clear hb2 hx2
      go_wp2_with fail
      clear a0 a1 a2 a3 a4 a5 a6 a7 a8 a9 a10 a11 a12
      refine (refBetween_any kind 0 8 _).mono ?_
      rintro e w3 ⟨rfl, rfl⟩
      rw [hk]
      obtain ⟨a0, a1, a2, a3, a4, a5, a6, a7, a8, a9, a10, a11, a12⟩ := HB.out w3 HX.out
      go_wp2_with fail
      clear a0 a1 a2 a3 a4 a5 a6 a7 a8 a9 a10 a11 a12
      refine (refBetween_any car 0 ((cs.length : Int) - 1) _).mono ?_
      rintro e w4 ⟨rfl, rfl⟩
      rw [hr]
      obtain ⟨a0, a1, a2, a3, a4, a5, a6, a7, a8, a9, a10, a11, a12⟩ := HB.out w4 HX.out
      go_wp2_with fail
      clear a0 a1 a2 a3 a4 a5 a6 a7 a8 a9 a10 a11 a12
      go_loopw [5] (fun v wr => ∃ m : Nat, m ≤ ys.length ∧ v = .int .i64 m ∧ (ys.take m).all (carIs f) = true ∧ Below W0.heap.size W0 wr) (fun v _ => ys.length - (intOf v).toNat)
      case atStart => exact ⟨0, Nat.zero_le _, rfl, rfl, HX.out⟩
      case round =>
        obtain ⟨m, hm, rfl, hall, hbr⟩ := hrel
        have hs0r : W0.heap.size ≤ wr.heap.size := hbr.size
        obtain ⟨a0, a1, a2, a3, a4, a5, a6, a7, a8, a9, a10, a11, a12⟩ := HB.out wr hbr
        have HBR := Lib.hid hbr
        have HALL := Lib.hid hall
        clear hbr hall
        rcases Nat.lt_or_ge m ys.length with hlt | hge
        case inr =>
          obtain rfl : m = ys.length := by omega
          go_wp2_with fail
          go_ret
          have hall := HALL.out
          rw [List.take_length] at hall
          have hR : R = true := by rw [HIS.out, hall, HHS.out, hk, hr, hz, decide_eq_true hl]; rfl
          exact ⟨by subst hR; rfl, HBW.out.trans (HBR.out.mono (by omega))⟩
        have hbwr := HBW.out.trans (HBR.out.mono (by omega))
        rcases HV.out.below hbwr with h0 | ⟨b, off, rfl, hv⟩
        · subst h0; simp at hlt
        have g := hv m hlt
        have hsc := HSC.out ys[m] (List.getElem_mem hlt)
        have HNO : Hid (carIs f ys[m] = false → ys.all (carIs f) = false) := all_no hlt
        have HYES : Hid (carIs f ys[m] = true → (ys.take (m + 1)).all (carIs f) = true) := fun h => all_take hlt h HALL.out
        clear hbwr hv
        generalize ys[m] = c at g hsc HNO HYES
        have g0 : wr.cell? ⟨b, off + m * 11, none⟩ = some (.int .u32 c.floors) := g 0 _ rfl
        have g1 : wr.cell? ⟨b, off + m * 11 + 1, none⟩ = some (.bool c.up) := g 1 _ rfl
        have g2 : wr.cell? ⟨b, off + m * 11 + 2, none⟩ = some (.bool c.down) := g 2 _ rfl
        have g3 : wr.cell? ⟨b, off + m * 11 + 3, none⟩ = some (.bool c.opened) := g 3 _ rfl
        have g4 : wr.cell? ⟨b, off + m * 11 + 4, none⟩ = some (.bool c.closed) := g 4 _ rfl
        have g5 : wr.cell? ⟨b, off + m * 11 + 5, none⟩ = some (.int .i64 c.floor) := g 5 _ rfl
        have g6 : wr.cell? ⟨b, off + m * 11 + 6, none⟩ = some (.bool c.level) := g 6 _ rfl
        have g7 : wr.cell? ⟨b, off + m * 11 + 7, none⟩ = some (.int .i64 c.door) := g 7 _ rfl
        have g8 : wr.cell? ⟨b, off + m * 11 + 8, none⟩ = some (.bool c.block) := g 8 _ rfl
        have g9 : wr.cell? ⟨b, off + m * 11 + 9, none⟩ = some (.int .u32 c.calls) := g 9 _ rfl
        have g10 : wr.cell? ⟨b, off + m * 11 + 10, none⟩ = some (.float .f64 c.load) := g 10 _ rfl
        have hbl : b < wr.heap.size := World.block_lt_of_cell? wr _ g0
        clear g
        have hpast : ∀ o j, (wr.alloc o).cell? ⟨w.heap.size, j, none⟩ = wr.cell? ⟨w.heap.size, j, none⟩ := fun o j => World.cell?_of_block (w := wr) (Below.heap_alloc wr o w.heap.size (by omega))
        have p0 := fun o => (hpast o 0).trans a0
        have p1 := fun o => (hpast o 1).trans a1
        have p2 := fun o => (hpast o 2).trans a2
        have p3 := fun o => (hpast o 3).trans a3
        have p4 := fun o => (hpast o 4).trans a4
        have p5 := fun o => (hpast o 5).trans a5
        have p6 := fun o => (hpast o 6).trans a6
        have p7 := fun o => (hpast o 7).trans a7
        clear hpast
        go_wp2_with fail
        obtain ⟨W1, hW1⟩ : ∃ W1, W1 = wr.alloc (.cells #[.int .u32 c.floors, .bool c.up, .bool c.down, .bool c.opened, .bool c.closed, .int .i64 c.floor, .bool c.level, .int .i64 c.door, .bool c.block, .int .u32 c.calls, .float .f64 c.load] 71) := ⟨_, rfl⟩
        rw [← hW1]
        have hs1 : W1.heap.size = wr.heap.size + 1 := by rw [hW1]; simp
        have HB1B : Hid (Below W0.heap.size W0 W1) := by rw [hW1]; exact HBR.out.alloc hs0r _
        have HB1 : Hid (∀ wx, Below W1.heap.size W1 wx → wx.cell? ⟨w.heap.size, 0, none⟩ = some (.int .i64 f) ∧ wx.cell? ⟨w.heap.size, 1, none⟩ = some (.int .i64 d) ∧ wx.cell? ⟨w.heap.size, 2, none⟩ = some (.int .i64 r) ∧ wx.cell? ⟨w.heap.size, 3, none⟩ = some (.int .i64 p) ∧ wx.cell? ⟨w.heap.size, 4, none⟩ = some (.float .f64 e1) ∧ wx.cell? ⟨w.heap.size, 5, none⟩ = some (.float .f64 e2) ∧ wx.cell? ⟨w.heap.size, 6, none⟩ = some (.float .f64 e3) ∧ wx.cell? ⟨w.heap.size, 7, none⟩ = some (.slice A cs.length cap) ∧ wx.cell? ⟨wr.heap.size, 0, none⟩ = some (.int .u32 c.floors) ∧ wx.cell? ⟨wr.heap.size, 1, none⟩ = some (.bool c.up) ∧ wx.cell? ⟨wr.heap.size, 2, none⟩ = some (.bool c.down) ∧ wx.cell? ⟨wr.heap.size, 3, none⟩ = some (.bool c.opened) ∧ wx.cell? ⟨wr.heap.size, 4, none⟩ = some (.bool c.closed) ∧ wx.cell? ⟨wr.heap.size, 5, none⟩ = some (.int .i64 c.floor) ∧ wx.cell? ⟨wr.heap.size, 6, none⟩ = some (.bool c.level) ∧ wx.cell? ⟨wr.heap.size, 7, none⟩ = some (.int .i64 c.door) ∧ wx.cell? ⟨wr.heap.size, 8, none⟩ = some (.bool c.block) ∧ wx.cell? ⟨wr.heap.size, 9, none⟩ = some (.int .u32 c.calls) ∧ wx.cell? ⟨wr.heap.size, 10, none⟩ = some (.float .f64 c.load)) := fun wx h => by
          obtain ⟨a0, a1, a2, a3, a4, a5, a6, a7, -⟩ := HB.out wx (HB1B.out.trans (h.mono (by omega)))
          have r1 : wx.heap[wr.heap.size]? = some (.cells #[.int .u32 c.floors, .bool c.up, .bool c.down, .bool c.opened, .bool c.closed, .int .i64 c.floor, .bool c.level, .int .i64 c.door, .bool c.block, .int .u32 c.calls, .float .f64 c.load] 71 (0, 0)) := (h.block _ (by omega)).trans (by rw [hW1]; exact heap_alloc_new wr _)
          exact ⟨a0, a1, a2, a3, a4, a5, a6, a7, cell_of_row _ _ _ _ _ (0, 0) r1, cell_of_row _ _ _ _ _ (0, 0) r1, cell_of_row _ _ _ _ _ (0, 0) r1, cell_of_row _ _ _ _ _ (0, 0) r1, cell_of_row _ _ _ _ _ (0, 0) r1, cell_of_row _ _ _ _ _ (0, 0) r1, cell_of_row _ _ _ _ _ (0, 0) r1, cell_of_row _ _ _ _ _ (0, 0) r1, cell_of_row _ _ _ _ _ (0, 0) r1, cell_of_row _ _ _ _ _ (0, 0) r1, cell_of_row _ _ _ _ _ (0, 0) r1⟩
        clear hW1 p0 p1 p2 p3 p4 p5 p6 p7 a0 a1 a2 a3 a4 a5 a6 a7 a8 a9 a10 a11 a12 g0 g1 g2 g3 g4 g5 g6 g7 g8 g9 g10
        cases q1 : floorsB f c.floors
        case false =>
          refine (FL.out c.floors W1 hsc.1).mono ?_
          rintro e w5 ⟨rfl, hb5⟩
          rw [q1]
          have hx5 := hb5
          obtain ⟨a0, a1, a2, a3, a4, a5, a6, a7, c0, c1, c2, c3, c4, c5, c6, c7, c8, c9, c10⟩ := HB1.out w5 hx5
          have HX5 := Lib.hid hx5
          clear hb5 hx5
          go_wp2_with fail
          go_ret
          have hR : R = false := by rw [HIS.out, HNO.out (by simp [carIs, q1]), Bool.and_false]
          exact ⟨by subst hR; rfl, HBW.out.trans ((HB1B.out.trans (HX5.out.mono (by have := HB1B.out.size; omega))).mono (by omega))⟩
        cases q2 : floorsB f c.calls
        case false =>
          refine (FL.out c.floors W1 hsc.1).mono ?_
          rintro e w5 ⟨rfl, hb5⟩
          rw [q1]
          have hx5 := hb5
          obtain ⟨a0, a1, a2, a3, a4, a5, a6, a7, c0, c1, c2, c3, c4, c5, c6, c7, c8, c9, c10⟩ := HB1.out w5 hx5
          have HX5 := Lib.hid hx5
          clear hb5 hx5
          go_wp2_with fail
          clear a0 a1 a2 a3 a4 a5 a6 a7 c0 c1 c2 c3 c4 c5 c6 c7 c8 c9 c10
          refine (FL.out c.calls w5 hsc.2.1).mono ?_
          rintro e w6 ⟨rfl, hb5⟩
          rw [q2]
          have hx5 := HX5.out.trans (hb5.mono HX5.out.size)
          obtain ⟨a0, a1, a2, a3, a4, a5, a6, a7, c0, c1, c2, c3, c4, c5, c6, c7, c8, c9, c10⟩ := HB1.out w6 hx5
          have HX5 := Lib.hid hx5
          clear hb5 hx5
          go_wp2_with fail
          go_ret
          have hR : R = false := by rw [HIS.out, HNO.out (by simp [carIs, q1, q2]), Bool.and_false]
          exact ⟨by subst hR; rfl, HBW.out.trans ((HB1B.out.trans (HX5.out.mono (by have := HB1B.out.size; omega))).mono (by omega))⟩
        cases q3 : inB 0 (f - 1) c.floor
        case false =>
          refine (FL.out c.floors W1 hsc.1).mono ?_
          rintro e w5 ⟨rfl, hb5⟩
          rw [q1]
          have hx5 := hb5
          obtain ⟨a0, a1, a2, a3, a4, a5, a6, a7, c0, c1, c2, c3, c4, c5, c6, c7, c8, c9, c10⟩ := HB1.out w5 hx5
          have HX5 := Lib.hid hx5
          clear hb5 hx5
          go_wp2_with fail
          clear a0 a1 a2 a3 a4 a5 a6 a7 c0 c1 c2 c3 c4 c5 c6 c7 c8 c9 c10
          refine (FL.out c.calls w5 hsc.2.1).mono ?_
          rintro e w6 ⟨rfl, hb5⟩
          rw [q2]
          have hx5 := HX5.out.trans (hb5.mono HX5.out.size)
          obtain ⟨a0, a1, a2, a3, a4, a5, a6, a7, c0, c1, c2, c3, c4, c5, c6, c7, c8, c9, c10⟩ := HB1.out w6 hx5
          have HX5 := Lib.hid hx5
          clear hb5 hx5
          go_wp2_with fail
          clear a0 a1 a2 a3 a4 a5 a6 a7 c0 c1 c2 c3 c4 c5 c6 c7 c8 c9 c10
          refine (refBetween_any c.floor 0 (f - 1) _).mono ?_
          rintro e w7 ⟨rfl, rfl⟩
          rw [q3]
          obtain ⟨a0, a1, a2, a3, a4, a5, a6, a7, c0, c1, c2, c3, c4, c5, c6, c7, c8, c9, c10⟩ := HB1.out w7 HX5.out
          go_wp2_with fail
          go_ret
          have hR : R = false := by rw [HIS.out, HNO.out (by simp [carIs, q1, q2, q3]), Bool.and_false]
          exact ⟨by subst hR; rfl, HBW.out.trans ((HB1B.out.trans (HX5.out.mono (by have := HB1B.out.size; omega))).mono (by omega))⟩
        cases q4 : inB 0 2 c.door
        case false =>
          refine (FL.out c.floors W1 hsc.1).mono ?_
          rintro e w5 ⟨rfl, hb5⟩
          rw [q1]
          have hx5 := hb5
          obtain ⟨a0, a1, a2, a3, a4, a5, a6, a7, c0, c1, c2, c3, c4, c5, c6, c7, c8, c9, c10⟩ := HB1.out w5 hx5
          have HX5 := Lib.hid hx5
          clear hb5 hx5
          go_wp2_with fail
          clear a0 a1 a2 a3 a4 a5 a6 a7 c0 c1 c2 c3 c4 c5 c6 c7 c8 c9 c10
          refine (FL.out c.calls w5 hsc.2.1).mono ?_
          rintro e w6 ⟨rfl, hb5⟩
          rw [q2]
          have hx5 := HX5.out.trans (hb5.mono HX5.out.size)
          obtain ⟨a0, a1, a2, a3, a4, a5, a6, a7, c0, c1, c2, c3, c4, c5, c6, c7, c8, c9, c10⟩ := HB1.out w6 hx5
          have HX5 := Lib.hid hx5
          clear hb5 hx5
          go_wp2_with fail
          clear a0 a1 a2 a3 a4 a5 a6 a7 c0 c1 c2 c3 c4 c5 c6 c7 c8 c9 c10
          refine (refBetween_any c.floor 0 (f - 1) _).mono ?_
          rintro e w7 ⟨rfl, rfl⟩
          rw [q3]
          obtain ⟨a0, a1, a2, a3, a4, a5, a6, a7, c0, c1, c2, c3, c4, c5, c6, c7, c8, c9, c10⟩ := HB1.out w7 HX5.out
          go_wp2_with fail
          clear a0 a1 a2 a3 a4 a5 a6 a7 c0 c1 c2 c3 c4 c5 c6 c7 c8 c9 c10
          refine (refBetween_any c.door 0 2 _).mono ?_
          rintro e w8 ⟨rfl, rfl⟩
          rw [q4]
          obtain ⟨a0, a1, a2, a3, a4, a5, a6, a7, c0, c1, c2, c3, c4, c5, c6, c7, c8, c9, c10⟩ := HB1.out w8 HX5.out
          go_wp2_with fail
          go_ret
          have hR : R = false := by rw [HIS.out, HNO.out (by simp [carIs, q1, q2, q3, q4]), Bool.and_false]
          exact ⟨by subst hR; rfl, HBW.out.trans ((HB1B.out.trans (HX5.out.mono (by have := HB1B.out.size; omega))).mono (by omega))⟩
        refine (FL.out c.floors W1 hsc.1).mono ?_
        rintro e w5 ⟨rfl, hb5⟩
        rw [q1]
        have hx5 := hb5
        obtain ⟨a0, a1, a2, a3, a4, a5, a6, a7, c0, c1, c2, c3, c4, c5, c6, c7, c8, c9, c10⟩ := HB1.out w5 hx5
        have HX5 := Lib.hid hx5
        clear hb5 hx5
        go_wp2_with fail
        clear a0 a1 a2 a3 a4 a5 a6 a7 c0 c1 c2 c3 c4 c5 c6 c7 c8 c9 c10
        refine (FL.out c.calls w5 hsc.2.1).mono ?_
        rintro e w6 ⟨rfl, hb5⟩
        rw [q2]
        have hx5 := HX5.out.trans (hb5.mono HX5.out.size)
        obtain ⟨a0, a1, a2, a3, a4, a5, a6, a7, c0, c1, c2, c3, c4, c5, c6, c7, c8, c9, c10⟩ := HB1.out w6 hx5
        have HX5 := Lib.hid hx5
        clear hb5 hx5
        go_wp2_with fail
        clear a0 a1 a2 a3 a4 a5 a6 a7 c0 c1 c2 c3 c4 c5 c6 c7 c8 c9 c10
        refine (refBetween_any c.floor 0 (f - 1) _).mono ?_
        rintro e w7 ⟨rfl, rfl⟩
        rw [q3]
        obtain ⟨a0, a1, a2, a3, a4, a5, a6, a7, c0, c1, c2, c3, c4, c5, c6, c7, c8, c9, c10⟩ := HB1.out w7 HX5.out
        go_wp2_with fail
        clear a0 a1 a2 a3 a4 a5 a6 a7 c0 c1 c2 c3 c4 c5 c6 c7 c8 c9 c10
        refine (refBetween_any c.door 0 2 _).mono ?_
        rintro e w8 ⟨rfl, rfl⟩
        rw [q4]
        obtain ⟨a0, a1, a2, a3, a4, a5, a6, a7, c0, c1, c2, c3, c4, c5, c6, c7, c8, c9, c10⟩ := HB1.out w8 HX5.out
        go_wp2_with fail
        go_roundw
        case rel => exact ⟨m + 1, by omega, by go_num, HYES.out (by simp [carIs, q1, q2, q3, q4]), HB1B.out.trans (HX5.out.mono (by have := HB1B.out.size; omega))⟩
        case measure => simp [intOf]; omega
end Go.Proofs.Ythbfpdkgbkpmiaa
