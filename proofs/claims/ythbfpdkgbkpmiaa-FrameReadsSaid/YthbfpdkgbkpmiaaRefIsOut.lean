/- overlayref03.IsOut: the reference's test of outputs, in a valid building. No statement of the seat is proved here. -/
import Derived.Test.YthbfpdkgbkpmiaaG28
import Derived.Test.YthbfpdkgbkpmiaaG30
import Derived.Test.YthbfpdkgbkpmiaaG42
namespace Go.Proofs.Ythbfpdkgbkpmiaa
open Go.RowKit Frm

def coIs (x : BldD) (c : CarOut) : Bool := (setB c.iu (hallUp x) && setB c.id (hallDown x)) && ((setB c.lu (hallUp x) && setB c.ld (hallDown x)) && (inB 0 5 c.cmd && inB 0 4 c.ph))
def ohIs (x : BldD) (h : OutH) : Bool := (setB h.au (hallUp x) && setB h.ad (hallDown x)) && ((setB h.su (hallUp x) && setB h.sd (hallDown x)) && inB 0 65535 h.st)
def isOutB (x : BldD) (y : Ou) : Bool := (ohIs x y.h && decide ((y.cars.length : Int) = (x.cars.length : Int))) && y.cars.all (coIs x)
theorem allO_no {x : BldD} {ys : List CarOut} {m : Nat} (h : m < ys.length) (hc : coIs x ys[m] = false) : ys.all (coIs x) = false := by
  rw [List.all_eq_false]
  exact ⟨ys[m], List.getElem_mem h, by simp [hc]⟩
theorem allO_take {x : BldD} {ys : List CarOut} {m : Nat} (h : m < ys.length) (hc : coIs x ys[m] = true) (ht : (ys.take m).all (coIs x) = true) : (ys.take (m + 1)).all (coIs x) = true := by
  rw [List.take_succ_eq_append_getElem h, List.all_append, ht]
  simp [hc]

set_option maxRecDepth 100000 in
set_option maxHeartbeats 4000000 in
theorem refIsOut_any (x : BldD) (A : Option Addr) (cap : Nat) (y : Ou) (A' : Option Addr) (cp : Nat) (w : World) (hva : validE x = 0) (hxn : x.cars.length ≤ 140737488355328) (hc : CarsAt w w.heap.size A x.cars) (hn : y.cars.length ≤ 1000) (hy : saneOu y) (hv : CosV w A' y.cars) :
    Calls Try.prog 41 #[x.agg A cap, ouAgg y A' cp] w fun e w' => e = .returned (.bool (isOutB x y)) ∧ Below w.heap.size w w' := by
  have F1 := Lib.hid (fun wx (h : Below w.heap.size w wx) => refValid_any x A cap wx hxn ((hc.below h).more h.size))
  have FW := Lib.hid (fun u d wx (h : Below w.heap.size w wx) hu hd => refWithin_any x A cap u d wx hxn ((hc.below h).more h.size) hu hd)
  rw [hva] at F1
  have HV := Lib.hid hv
  have HSH : Hid (saneOh y.h) := hy.1
  have HSC : Hid (∀ c ∈ y.cars, saneCo c) := hy.2
  clear hc hv hy hva
  have HIS : Hid (isOutB x y = ((ohIs x y.h && decide ((y.cars.length : Int) = (x.cars.length : Int))) && y.cars.all (coIs x))) := rfl
  have HHS : Hid (ohIs x y.h = ((setB y.h.au (hallUp x) && setB y.h.ad (hallDown x)) && ((setB y.h.su (hallUp x) && setB y.h.sd (hallDown x)) && inB 0 65535 y.h.st))) := rfl
  have HCI : Hid (∀ c, coIs x c = ((setB c.iu (hallUp x) && setB c.id (hallDown x)) && ((setB c.lu (hallUp x) && setB c.ld (hallDown x)) && (inB 0 5 c.cmd && inB 0 4 c.ph)))) := fun _ => rfl
  have HNOX : Hid (∀ m (h : m < y.cars.length), coIs x y.cars[m] = false → y.cars.all (coIs x) = false) := fun m h => allO_no h
  have HYESX : Hid (∀ m (h : m < y.cars.length), coIs x y.cars[m] = true → (y.cars.take m).all (coIs x) = true → (y.cars.take (m + 1)).all (coIs x) = true) := fun m h => allO_take h
  generalize isOutB x y = R at *
  generalize coIs x = CI at *
  generalize ohIs x y.h = HD at *
  obtain ⟨⟨au, ad, su, sd, bad, full, st⟩, ys⟩ := y
  obtain ⟨⟨hau, had⟩, ⟨hsu, hsd⟩, -⟩ := HSH.out
  simp only at hau had hsu hsd
  clear HSH
  generalize hallUp x = U at *
  generalize hallDown x = D at *
  obtain ⟨f, d, r, p, e1, e2, e3, cs⟩ := x
  simp only [BldD.agg, ouAgg, callsV] at *
  cases qa : (setB au U && setB ad D)
  case false =>
    obtain rfl : HD = false := by rw [HHS.out, qa]; rfl
    obtain rfl : R = false := by rw [HIS.out]; rfl
    go_enter Try.func41, Try.ntmps41
    go_wp2_with fail
    obtain ⟨W0, hW0⟩ : ∃ W0, W0 = (w.alloc (.cells #[.int .i64 f, .int .i64 d, .int .i64 r, .int .i64 p, .float .f64 e1, .float .f64 e2, .float .f64 e3, .slice A cs.length cap] 25)).alloc (.cells #[.int .u32 au, .int .u32 ad, .int .u32 su, .int .u32 sd, .bool bad, .bool full, .int .i64 st, .slice A' ys.length cp] 46) := ⟨_, rfl⟩
    rw [← hW0]
    have hs0 : W0.heap.size = w.heap.size + 2 := by rw [hW0]; simp
    have HBW : Hid (Below w.heap.size w W0) := by rw [hW0]; exact ((Below.refl _ _).alloc (Nat.le_refl _) _).alloc (by simp) _
    have HB : Hid (∀ wx, Below W0.heap.size W0 wx → wx.cell? ⟨w.heap.size, 0, none⟩ = some (.int .i64 f) ∧ wx.cell? ⟨w.heap.size, 1, none⟩ = some (.int .i64 d) ∧ wx.cell? ⟨w.heap.size, 2, none⟩ = some (.int .i64 r) ∧ wx.cell? ⟨w.heap.size, 3, none⟩ = some (.int .i64 p) ∧ wx.cell? ⟨w.heap.size, 4, none⟩ = some (.float .f64 e1) ∧ wx.cell? ⟨w.heap.size, 5, none⟩ = some (.float .f64 e2) ∧ wx.cell? ⟨w.heap.size, 6, none⟩ = some (.float .f64 e3) ∧ wx.cell? ⟨w.heap.size, 7, none⟩ = some (.slice A cs.length cap) ∧ wx.cell? ⟨w.heap.size + 1, 0, none⟩ = some (.int .u32 au) ∧ wx.cell? ⟨w.heap.size + 1, 1, none⟩ = some (.int .u32 ad) ∧ wx.cell? ⟨w.heap.size + 1, 2, none⟩ = some (.int .u32 su) ∧ wx.cell? ⟨w.heap.size + 1, 3, none⟩ = some (.int .u32 sd) ∧ wx.cell? ⟨w.heap.size + 1, 4, none⟩ = some (.bool bad) ∧ wx.cell? ⟨w.heap.size + 1, 5, none⟩ = some (.bool full) ∧ wx.cell? ⟨w.heap.size + 1, 6, none⟩ = some (.int .i64 st) ∧ wx.cell? ⟨w.heap.size + 1, 7, none⟩ = some (.slice A' ys.length cp)) := fun wx h => by
      have r0 : wx.heap[w.heap.size]? = some (.cells #[.int .i64 f, .int .i64 d, .int .i64 r, .int .i64 p, .float .f64 e1, .float .f64 e2, .float .f64 e3, .slice A cs.length cap] 25 (0, 0)) := (h.block _ (by omega)).trans (by rw [hW0]; exact (Below.heap_alloc _ _ _ (by simp)).trans (heap_alloc_new w _))
      have r1 : wx.heap[w.heap.size + 1]? = some (.cells #[.int .u32 au, .int .u32 ad, .int .u32 su, .int .u32 sd, .bool bad, .bool full, .int .i64 st, .slice A' ys.length cp] 46 (0, 0)) := (h.block _ (by omega)).trans (by
        rw [hW0]
        have h := heap_alloc_new (w.alloc (.cells #[.int .i64 f, .int .i64 d, .int .i64 r, .int .i64 p, .float .f64 e1, .float .f64 e2, .float .f64 e3, .slice A cs.length cap] 25)) (.cells #[.int .u32 au, .int .u32 ad, .int .u32 su, .int .u32 sd, .bool bad, .bool full, .int .i64 st, .slice A' ys.length cp] 46)
        have e : (w.alloc (.cells #[.int .i64 f, .int .i64 d, .int .i64 r, .int .i64 p, .float .f64 e1, .float .f64 e2, .float .f64 e3, .slice A cs.length cap] 25)).heap.size = w.heap.size + 1 := by simp
        rw [e] at h
        exact h)
      exact ⟨cell_of_row _ _ _ _ _ (0, 0) r0, cell_of_row _ _ _ _ _ (0, 0) r0, cell_of_row _ _ _ _ _ (0, 0) r0, cell_of_row _ _ _ _ _ (0, 0) r0, cell_of_row _ _ _ _ _ (0, 0) r0, cell_of_row _ _ _ _ _ (0, 0) r0, cell_of_row _ _ _ _ _ (0, 0) r0, cell_of_row _ _ _ _ _ (0, 0) r0, cell_of_row _ _ _ _ _ (0, 0) r1, cell_of_row _ _ _ _ _ (0, 0) r1, cell_of_row _ _ _ _ _ (0, 0) r1, cell_of_row _ _ _ _ _ (0, 0) r1, cell_of_row _ _ _ _ _ (0, 0) r1, cell_of_row _ _ _ _ _ (0, 0) r1, cell_of_row _ _ _ _ _ (0, 0) r1, cell_of_row _ _ _ _ _ (0, 0) r1⟩
    clear hW0
    refine (F1.out W0 HBW.out).mono ?_
    rintro e w1 ⟨rfl, hb1⟩
    obtain ⟨a0, a1, a2, a3, a4, a5, a6, a7, a8, a9, a10, a11, a12, a13, a14, a15⟩ := HB.out w1 hb1
    have HX := Lib.hid hb1
    clear hb1
    go_wp2_with fail
    clear a0 a1 a2 a3 a4 a5 a6 a7 a8 a9 a10 a11 a12 a13 a14 a15
    refine (FW.out au ad w1 (HBW.out.trans (HX.out.mono (by omega))) hau had).mono ?_
    rintro e w2 ⟨rfl, hb2⟩
    rw [qa]
    have hx2 := HX.out.trans (hb2.mono HX.out.size)
    obtain ⟨a0, a1, a2, a3, a4, a5, a6, a7, a8, a9, a10, a11, a12, a13, a14, a15⟩ := HB.out w2 hx2
    have HX := Lib.hid hx2
    clear hb2 hx2
    go_wp2_with fail
    go_ret
    exact ⟨rfl, HBW.out.trans (HX.out.mono (by omega))⟩
  cases qb : (setB su U && setB sd D)
  case false =>
    obtain rfl : HD = false := by rw [HHS.out, qa, qb]; rfl
    obtain rfl : R = false := by rw [HIS.out]; rfl
    go_enter Try.func41, Try.ntmps41
    go_wp2_with fail
    obtain ⟨W0, hW0⟩ : ∃ W0, W0 = (w.alloc (.cells #[.int .i64 f, .int .i64 d, .int .i64 r, .int .i64 p, .float .f64 e1, .float .f64 e2, .float .f64 e3, .slice A cs.length cap] 25)).alloc (.cells #[.int .u32 au, .int .u32 ad, .int .u32 su, .int .u32 sd, .bool bad, .bool full, .int .i64 st, .slice A' ys.length cp] 46) := ⟨_, rfl⟩
    rw [← hW0]
    have hs0 : W0.heap.size = w.heap.size + 2 := by rw [hW0]; simp
    have HBW : Hid (Below w.heap.size w W0) := by rw [hW0]; exact ((Below.refl _ _).alloc (Nat.le_refl _) _).alloc (by simp) _
    have HB : Hid (∀ wx, Below W0.heap.size W0 wx → wx.cell? ⟨w.heap.size, 0, none⟩ = some (.int .i64 f) ∧ wx.cell? ⟨w.heap.size, 1, none⟩ = some (.int .i64 d) ∧ wx.cell? ⟨w.heap.size, 2, none⟩ = some (.int .i64 r) ∧ wx.cell? ⟨w.heap.size, 3, none⟩ = some (.int .i64 p) ∧ wx.cell? ⟨w.heap.size, 4, none⟩ = some (.float .f64 e1) ∧ wx.cell? ⟨w.heap.size, 5, none⟩ = some (.float .f64 e2) ∧ wx.cell? ⟨w.heap.size, 6, none⟩ = some (.float .f64 e3) ∧ wx.cell? ⟨w.heap.size, 7, none⟩ = some (.slice A cs.length cap) ∧ wx.cell? ⟨w.heap.size + 1, 0, none⟩ = some (.int .u32 au) ∧ wx.cell? ⟨w.heap.size + 1, 1, none⟩ = some (.int .u32 ad) ∧ wx.cell? ⟨w.heap.size + 1, 2, none⟩ = some (.int .u32 su) ∧ wx.cell? ⟨w.heap.size + 1, 3, none⟩ = some (.int .u32 sd) ∧ wx.cell? ⟨w.heap.size + 1, 4, none⟩ = some (.bool bad) ∧ wx.cell? ⟨w.heap.size + 1, 5, none⟩ = some (.bool full) ∧ wx.cell? ⟨w.heap.size + 1, 6, none⟩ = some (.int .i64 st) ∧ wx.cell? ⟨w.heap.size + 1, 7, none⟩ = some (.slice A' ys.length cp)) := fun wx h => by
      have r0 : wx.heap[w.heap.size]? = some (.cells #[.int .i64 f, .int .i64 d, .int .i64 r, .int .i64 p, .float .f64 e1, .float .f64 e2, .float .f64 e3, .slice A cs.length cap] 25 (0, 0)) := (h.block _ (by omega)).trans (by rw [hW0]; exact (Below.heap_alloc _ _ _ (by simp)).trans (heap_alloc_new w _))
      have r1 : wx.heap[w.heap.size + 1]? = some (.cells #[.int .u32 au, .int .u32 ad, .int .u32 su, .int .u32 sd, .bool bad, .bool full, .int .i64 st, .slice A' ys.length cp] 46 (0, 0)) := (h.block _ (by omega)).trans (by
        rw [hW0]
        have h := heap_alloc_new (w.alloc (.cells #[.int .i64 f, .int .i64 d, .int .i64 r, .int .i64 p, .float .f64 e1, .float .f64 e2, .float .f64 e3, .slice A cs.length cap] 25)) (.cells #[.int .u32 au, .int .u32 ad, .int .u32 su, .int .u32 sd, .bool bad, .bool full, .int .i64 st, .slice A' ys.length cp] 46)
        have e : (w.alloc (.cells #[.int .i64 f, .int .i64 d, .int .i64 r, .int .i64 p, .float .f64 e1, .float .f64 e2, .float .f64 e3, .slice A cs.length cap] 25)).heap.size = w.heap.size + 1 := by simp
        rw [e] at h
        exact h)
      exact ⟨cell_of_row _ _ _ _ _ (0, 0) r0, cell_of_row _ _ _ _ _ (0, 0) r0, cell_of_row _ _ _ _ _ (0, 0) r0, cell_of_row _ _ _ _ _ (0, 0) r0, cell_of_row _ _ _ _ _ (0, 0) r0, cell_of_row _ _ _ _ _ (0, 0) r0, cell_of_row _ _ _ _ _ (0, 0) r0, cell_of_row _ _ _ _ _ (0, 0) r0, cell_of_row _ _ _ _ _ (0, 0) r1, cell_of_row _ _ _ _ _ (0, 0) r1, cell_of_row _ _ _ _ _ (0, 0) r1, cell_of_row _ _ _ _ _ (0, 0) r1, cell_of_row _ _ _ _ _ (0, 0) r1, cell_of_row _ _ _ _ _ (0, 0) r1, cell_of_row _ _ _ _ _ (0, 0) r1, cell_of_row _ _ _ _ _ (0, 0) r1⟩
    clear hW0
    refine (F1.out W0 HBW.out).mono ?_
    rintro e w1 ⟨rfl, hb1⟩
    obtain ⟨a0, a1, a2, a3, a4, a5, a6, a7, a8, a9, a10, a11, a12, a13, a14, a15⟩ := HB.out w1 hb1
    have HX := Lib.hid hb1
    clear hb1
    go_wp2_with fail
    clear a0 a1 a2 a3 a4 a5 a6 a7 a8 a9 a10 a11 a12 a13 a14 a15
    refine (FW.out au ad w1 (HBW.out.trans (HX.out.mono (by omega))) hau had).mono ?_
    rintro e w2 ⟨rfl, hb2⟩
    rw [qa]
    have hx2 := HX.out.trans (hb2.mono HX.out.size)
    obtain ⟨a0, a1, a2, a3, a4, a5, a6, a7, a8, a9, a10, a11, a12, a13, a14, a15⟩ := HB.out w2 hx2
    have HX := Lib.hid hx2
    clear hb2 hx2
    go_wp2_with fail
    clear a0 a1 a2 a3 a4 a5 a6 a7 a8 a9 a10 a11 a12 a13 a14 a15
    refine (FW.out su sd w2 (HBW.out.trans (HX.out.mono (by omega))) hsu hsd).mono ?_
    rintro e w3 ⟨rfl, hb2⟩
    rw [qb]
    have hx2 := HX.out.trans (hb2.mono HX.out.size)
    obtain ⟨a0, a1, a2, a3, a4, a5, a6, a7, a8, a9, a10, a11, a12, a13, a14, a15⟩ := HB.out w3 hx2
    have HX := Lib.hid hx2
    clear hb2 hx2
    go_wp2_with fail
    go_ret
    exact ⟨rfl, HBW.out.trans (HX.out.mono (by omega))⟩
  cases qc : inB 0 65535 st
  case false =>
    obtain rfl : HD = false := by rw [HHS.out, qa, qb, qc]; rfl
    obtain rfl : R = false := by rw [HIS.out]; rfl
    go_enter Try.func41, Try.ntmps41
    go_wp2_with fail
    obtain ⟨W0, hW0⟩ : ∃ W0, W0 = (w.alloc (.cells #[.int .i64 f, .int .i64 d, .int .i64 r, .int .i64 p, .float .f64 e1, .float .f64 e2, .float .f64 e3, .slice A cs.length cap] 25)).alloc (.cells #[.int .u32 au, .int .u32 ad, .int .u32 su, .int .u32 sd, .bool bad, .bool full, .int .i64 st, .slice A' ys.length cp] 46) := ⟨_, rfl⟩
    rw [← hW0]
    have hs0 : W0.heap.size = w.heap.size + 2 := by rw [hW0]; simp
    have HBW : Hid (Below w.heap.size w W0) := by rw [hW0]; exact ((Below.refl _ _).alloc (Nat.le_refl _) _).alloc (by simp) _
    have HB : Hid (∀ wx, Below W0.heap.size W0 wx → wx.cell? ⟨w.heap.size, 0, none⟩ = some (.int .i64 f) ∧ wx.cell? ⟨w.heap.size, 1, none⟩ = some (.int .i64 d) ∧ wx.cell? ⟨w.heap.size, 2, none⟩ = some (.int .i64 r) ∧ wx.cell? ⟨w.heap.size, 3, none⟩ = some (.int .i64 p) ∧ wx.cell? ⟨w.heap.size, 4, none⟩ = some (.float .f64 e1) ∧ wx.cell? ⟨w.heap.size, 5, none⟩ = some (.float .f64 e2) ∧ wx.cell? ⟨w.heap.size, 6, none⟩ = some (.float .f64 e3) ∧ wx.cell? ⟨w.heap.size, 7, none⟩ = some (.slice A cs.length cap) ∧ wx.cell? ⟨w.heap.size + 1, 0, none⟩ = some (.int .u32 au) ∧ wx.cell? ⟨w.heap.size + 1, 1, none⟩ = some (.int .u32 ad) ∧ wx.cell? ⟨w.heap.size + 1, 2, none⟩ = some (.int .u32 su) ∧ wx.cell? ⟨w.heap.size + 1, 3, none⟩ = some (.int .u32 sd) ∧ wx.cell? ⟨w.heap.size + 1, 4, none⟩ = some (.bool bad) ∧ wx.cell? ⟨w.heap.size + 1, 5, none⟩ = some (.bool full) ∧ wx.cell? ⟨w.heap.size + 1, 6, none⟩ = some (.int .i64 st) ∧ wx.cell? ⟨w.heap.size + 1, 7, none⟩ = some (.slice A' ys.length cp)) := fun wx h => by
      have r0 : wx.heap[w.heap.size]? = some (.cells #[.int .i64 f, .int .i64 d, .int .i64 r, .int .i64 p, .float .f64 e1, .float .f64 e2, .float .f64 e3, .slice A cs.length cap] 25 (0, 0)) := (h.block _ (by omega)).trans (by rw [hW0]; exact (Below.heap_alloc _ _ _ (by simp)).trans (heap_alloc_new w _))
      have r1 : wx.heap[w.heap.size + 1]? = some (.cells #[.int .u32 au, .int .u32 ad, .int .u32 su, .int .u32 sd, .bool bad, .bool full, .int .i64 st, .slice A' ys.length cp] 46 (0, 0)) := (h.block _ (by omega)).trans (by
        rw [hW0]
        have h := heap_alloc_new (w.alloc (.cells #[.int .i64 f, .int .i64 d, .int .i64 r, .int .i64 p, .float .f64 e1, .float .f64 e2, .float .f64 e3, .slice A cs.length cap] 25)) (.cells #[.int .u32 au, .int .u32 ad, .int .u32 su, .int .u32 sd, .bool bad, .bool full, .int .i64 st, .slice A' ys.length cp] 46)
        have e : (w.alloc (.cells #[.int .i64 f, .int .i64 d, .int .i64 r, .int .i64 p, .float .f64 e1, .float .f64 e2, .float .f64 e3, .slice A cs.length cap] 25)).heap.size = w.heap.size + 1 := by simp
        rw [e] at h
        exact h)
      exact ⟨cell_of_row _ _ _ _ _ (0, 0) r0, cell_of_row _ _ _ _ _ (0, 0) r0, cell_of_row _ _ _ _ _ (0, 0) r0, cell_of_row _ _ _ _ _ (0, 0) r0, cell_of_row _ _ _ _ _ (0, 0) r0, cell_of_row _ _ _ _ _ (0, 0) r0, cell_of_row _ _ _ _ _ (0, 0) r0, cell_of_row _ _ _ _ _ (0, 0) r0, cell_of_row _ _ _ _ _ (0, 0) r1, cell_of_row _ _ _ _ _ (0, 0) r1, cell_of_row _ _ _ _ _ (0, 0) r1, cell_of_row _ _ _ _ _ (0, 0) r1, cell_of_row _ _ _ _ _ (0, 0) r1, cell_of_row _ _ _ _ _ (0, 0) r1, cell_of_row _ _ _ _ _ (0, 0) r1, cell_of_row _ _ _ _ _ (0, 0) r1⟩
    clear hW0
    refine (F1.out W0 HBW.out).mono ?_
    rintro e w1 ⟨rfl, hb1⟩
    obtain ⟨a0, a1, a2, a3, a4, a5, a6, a7, a8, a9, a10, a11, a12, a13, a14, a15⟩ := HB.out w1 hb1
    have HX := Lib.hid hb1
    clear hb1
    go_wp2_with fail
    clear a0 a1 a2 a3 a4 a5 a6 a7 a8 a9 a10 a11 a12 a13 a14 a15
    refine (FW.out au ad w1 (HBW.out.trans (HX.out.mono (by omega))) hau had).mono ?_
    rintro e w2 ⟨rfl, hb2⟩
    rw [qa]
    have hx2 := HX.out.trans (hb2.mono HX.out.size)
    obtain ⟨a0, a1, a2, a3, a4, a5, a6, a7, a8, a9, a10, a11, a12, a13, a14, a15⟩ := HB.out w2 hx2
    have HX := Lib.hid hx2
    clear hb2 hx2
    go_wp2_with fail
    clear a0 a1 a2 a3 a4 a5 a6 a7 a8 a9 a10 a11 a12 a13 a14 a15
    refine (FW.out su sd w2 (HBW.out.trans (HX.out.mono (by omega))) hsu hsd).mono ?_
    rintro e w3 ⟨rfl, hb2⟩
    rw [qb]
    have hx2 := HX.out.trans (hb2.mono HX.out.size)
    obtain ⟨a0, a1, a2, a3, a4, a5, a6, a7, a8, a9, a10, a11, a12, a13, a14, a15⟩ := HB.out w3 hx2
    have HX := Lib.hid hx2
    clear hb2 hx2
    go_wp2_with fail
    clear a0 a1 a2 a3 a4 a5 a6 a7 a8 a9 a10 a11 a12 a13 a14 a15
    refine (refBetween_any st 0 65535 _).mono ?_
    rintro e w4 ⟨rfl, rfl⟩
    rw [qc]
    obtain ⟨a0, a1, a2, a3, a4, a5, a6, a7, a8, a9, a10, a11, a12, a13, a14, a15⟩ := HB.out w4 HX.out
    go_wp2_with fail
    go_ret
    exact ⟨rfl, HBW.out.trans (HX.out.mono (by omega))⟩
  obtain rfl : HD = true := by rw [HHS.out, qa, qb, qc]; rfl
  by_cases hl : (ys.length : Int) = (cs.length : Int)
  case neg =>
    have hlb : ((ys.length : Int) != (cs.length : Int)) = true := bne_iff_ne.2 hl
    obtain rfl : R = false := by rw [HIS.out, decide_eq_false hl]; rfl
    clear hl
    go_enter Try.func41, Try.ntmps41
    go_wp2_with fail
    obtain ⟨W0, hW0⟩ : ∃ W0, W0 = (w.alloc (.cells #[.int .i64 f, .int .i64 d, .int .i64 r, .int .i64 p, .float .f64 e1, .float .f64 e2, .float .f64 e3, .slice A cs.length cap] 25)).alloc (.cells #[.int .u32 au, .int .u32 ad, .int .u32 su, .int .u32 sd, .bool bad, .bool full, .int .i64 st, .slice A' ys.length cp] 46) := ⟨_, rfl⟩
    rw [← hW0]
    have hs0 : W0.heap.size = w.heap.size + 2 := by rw [hW0]; simp
    have HBW : Hid (Below w.heap.size w W0) := by rw [hW0]; exact ((Below.refl _ _).alloc (Nat.le_refl _) _).alloc (by simp) _
    have HB : Hid (∀ wx, Below W0.heap.size W0 wx → wx.cell? ⟨w.heap.size, 0, none⟩ = some (.int .i64 f) ∧ wx.cell? ⟨w.heap.size, 1, none⟩ = some (.int .i64 d) ∧ wx.cell? ⟨w.heap.size, 2, none⟩ = some (.int .i64 r) ∧ wx.cell? ⟨w.heap.size, 3, none⟩ = some (.int .i64 p) ∧ wx.cell? ⟨w.heap.size, 4, none⟩ = some (.float .f64 e1) ∧ wx.cell? ⟨w.heap.size, 5, none⟩ = some (.float .f64 e2) ∧ wx.cell? ⟨w.heap.size, 6, none⟩ = some (.float .f64 e3) ∧ wx.cell? ⟨w.heap.size, 7, none⟩ = some (.slice A cs.length cap) ∧ wx.cell? ⟨w.heap.size + 1, 0, none⟩ = some (.int .u32 au) ∧ wx.cell? ⟨w.heap.size + 1, 1, none⟩ = some (.int .u32 ad) ∧ wx.cell? ⟨w.heap.size + 1, 2, none⟩ = some (.int .u32 su) ∧ wx.cell? ⟨w.heap.size + 1, 3, none⟩ = some (.int .u32 sd) ∧ wx.cell? ⟨w.heap.size + 1, 4, none⟩ = some (.bool bad) ∧ wx.cell? ⟨w.heap.size + 1, 5, none⟩ = some (.bool full) ∧ wx.cell? ⟨w.heap.size + 1, 6, none⟩ = some (.int .i64 st) ∧ wx.cell? ⟨w.heap.size + 1, 7, none⟩ = some (.slice A' ys.length cp)) := fun wx h => by
      have r0 : wx.heap[w.heap.size]? = some (.cells #[.int .i64 f, .int .i64 d, .int .i64 r, .int .i64 p, .float .f64 e1, .float .f64 e2, .float .f64 e3, .slice A cs.length cap] 25 (0, 0)) := (h.block _ (by omega)).trans (by rw [hW0]; exact (Below.heap_alloc _ _ _ (by simp)).trans (heap_alloc_new w _))
      have r1 : wx.heap[w.heap.size + 1]? = some (.cells #[.int .u32 au, .int .u32 ad, .int .u32 su, .int .u32 sd, .bool bad, .bool full, .int .i64 st, .slice A' ys.length cp] 46 (0, 0)) := (h.block _ (by omega)).trans (by
        rw [hW0]
        have h := heap_alloc_new (w.alloc (.cells #[.int .i64 f, .int .i64 d, .int .i64 r, .int .i64 p, .float .f64 e1, .float .f64 e2, .float .f64 e3, .slice A cs.length cap] 25)) (.cells #[.int .u32 au, .int .u32 ad, .int .u32 su, .int .u32 sd, .bool bad, .bool full, .int .i64 st, .slice A' ys.length cp] 46)
        have e : (w.alloc (.cells #[.int .i64 f, .int .i64 d, .int .i64 r, .int .i64 p, .float .f64 e1, .float .f64 e2, .float .f64 e3, .slice A cs.length cap] 25)).heap.size = w.heap.size + 1 := by simp
        rw [e] at h
        exact h)
      exact ⟨cell_of_row _ _ _ _ _ (0, 0) r0, cell_of_row _ _ _ _ _ (0, 0) r0, cell_of_row _ _ _ _ _ (0, 0) r0, cell_of_row _ _ _ _ _ (0, 0) r0, cell_of_row _ _ _ _ _ (0, 0) r0, cell_of_row _ _ _ _ _ (0, 0) r0, cell_of_row _ _ _ _ _ (0, 0) r0, cell_of_row _ _ _ _ _ (0, 0) r0, cell_of_row _ _ _ _ _ (0, 0) r1, cell_of_row _ _ _ _ _ (0, 0) r1, cell_of_row _ _ _ _ _ (0, 0) r1, cell_of_row _ _ _ _ _ (0, 0) r1, cell_of_row _ _ _ _ _ (0, 0) r1, cell_of_row _ _ _ _ _ (0, 0) r1, cell_of_row _ _ _ _ _ (0, 0) r1, cell_of_row _ _ _ _ _ (0, 0) r1⟩
    clear hW0
    refine (F1.out W0 HBW.out).mono ?_
    rintro e w1 ⟨rfl, hb1⟩
    obtain ⟨a0, a1, a2, a3, a4, a5, a6, a7, a8, a9, a10, a11, a12, a13, a14, a15⟩ := HB.out w1 hb1
    have HX := Lib.hid hb1
    clear hb1
    go_wp2_with fail
    clear a0 a1 a2 a3 a4 a5 a6 a7 a8 a9 a10 a11 a12 a13 a14 a15
    refine (FW.out au ad w1 (HBW.out.trans (HX.out.mono (by omega))) hau had).mono ?_
    rintro e w2 ⟨rfl, hb2⟩
    rw [qa]
    have hx2 := HX.out.trans (hb2.mono HX.out.size)
    obtain ⟨a0, a1, a2, a3, a4, a5, a6, a7, a8, a9, a10, a11, a12, a13, a14, a15⟩ := HB.out w2 hx2
    have HX := Lib.hid hx2
    clear hb2 hx2
    go_wp2_with fail
    clear a0 a1 a2 a3 a4 a5 a6 a7 a8 a9 a10 a11 a12 a13 a14 a15
    refine (FW.out su sd w2 (HBW.out.trans (HX.out.mono (by omega))) hsu hsd).mono ?_
    rintro e w3 ⟨rfl, hb2⟩
    rw [qb]
    have hx2 := HX.out.trans (hb2.mono HX.out.size)
    obtain ⟨a0, a1, a2, a3, a4, a5, a6, a7, a8, a9, a10, a11, a12, a13, a14, a15⟩ := HB.out w3 hx2
    have HX := Lib.hid hx2
    clear hb2 hx2
    go_wp2_with fail
    clear a0 a1 a2 a3 a4 a5 a6 a7 a8 a9 a10 a11 a12 a13 a14 a15
    refine (refBetween_any st 0 65535 _).mono ?_
    rintro e w4 ⟨rfl, rfl⟩
    rw [qc]
    obtain ⟨a0, a1, a2, a3, a4, a5, a6, a7, a8, a9, a10, a11, a12, a13, a14, a15⟩ := HB.out w4 HX.out
    go_wp2_with fail
    go_ret
    exact ⟨rfl, HBW.out.trans (HX.out.mono (by omega))⟩
  have hlb : ((ys.length : Int) != (cs.length : Int)) = false := bne_eq_false_iff_eq.2 hl
  have HL := Lib.hid (decide_eq_true hl)
  clear hl
  go_enter Try.func41, Try.ntmps41
  go_wp2_with fail
  obtain ⟨W0, hW0⟩ : ∃ W0, W0 = (w.alloc (.cells #[.int .i64 f, .int .i64 d, .int .i64 r, .int .i64 p, .float .f64 e1, .float .f64 e2, .float .f64 e3, .slice A cs.length cap] 25)).alloc (.cells #[.int .u32 au, .int .u32 ad, .int .u32 su, .int .u32 sd, .bool bad, .bool full, .int .i64 st, .slice A' ys.length cp] 46) := ⟨_, rfl⟩
  rw [← hW0]
  have hs0 : W0.heap.size = w.heap.size + 2 := by rw [hW0]; simp
  have HBW : Hid (Below w.heap.size w W0) := by rw [hW0]; exact ((Below.refl _ _).alloc (Nat.le_refl _) _).alloc (by simp) _
  have HB : Hid (∀ wx, Below W0.heap.size W0 wx → wx.cell? ⟨w.heap.size, 0, none⟩ = some (.int .i64 f) ∧ wx.cell? ⟨w.heap.size, 1, none⟩ = some (.int .i64 d) ∧ wx.cell? ⟨w.heap.size, 2, none⟩ = some (.int .i64 r) ∧ wx.cell? ⟨w.heap.size, 3, none⟩ = some (.int .i64 p) ∧ wx.cell? ⟨w.heap.size, 4, none⟩ = some (.float .f64 e1) ∧ wx.cell? ⟨w.heap.size, 5, none⟩ = some (.float .f64 e2) ∧ wx.cell? ⟨w.heap.size, 6, none⟩ = some (.float .f64 e3) ∧ wx.cell? ⟨w.heap.size, 7, none⟩ = some (.slice A cs.length cap) ∧ wx.cell? ⟨w.heap.size + 1, 0, none⟩ = some (.int .u32 au) ∧ wx.cell? ⟨w.heap.size + 1, 1, none⟩ = some (.int .u32 ad) ∧ wx.cell? ⟨w.heap.size + 1, 2, none⟩ = some (.int .u32 su) ∧ wx.cell? ⟨w.heap.size + 1, 3, none⟩ = some (.int .u32 sd) ∧ wx.cell? ⟨w.heap.size + 1, 4, none⟩ = some (.bool bad) ∧ wx.cell? ⟨w.heap.size + 1, 5, none⟩ = some (.bool full) ∧ wx.cell? ⟨w.heap.size + 1, 6, none⟩ = some (.int .i64 st) ∧ wx.cell? ⟨w.heap.size + 1, 7, none⟩ = some (.slice A' ys.length cp)) := fun wx h => by
    have r0 : wx.heap[w.heap.size]? = some (.cells #[.int .i64 f, .int .i64 d, .int .i64 r, .int .i64 p, .float .f64 e1, .float .f64 e2, .float .f64 e3, .slice A cs.length cap] 25 (0, 0)) := (h.block _ (by omega)).trans (by rw [hW0]; exact (Below.heap_alloc _ _ _ (by simp)).trans (heap_alloc_new w _))
    have r1 : wx.heap[w.heap.size + 1]? = some (.cells #[.int .u32 au, .int .u32 ad, .int .u32 su, .int .u32 sd, .bool bad, .bool full, .int .i64 st, .slice A' ys.length cp] 46 (0, 0)) := (h.block _ (by omega)).trans (by
      rw [hW0]
      have h := heap_alloc_new (w.alloc (.cells #[.int .i64 f, .int .i64 d, .int .i64 r, .int .i64 p, .float .f64 e1, .float .f64 e2, .float .f64 e3, .slice A cs.length cap] 25)) (.cells #[.int .u32 au, .int .u32 ad, .int .u32 su, .int .u32 sd, .bool bad, .bool full, .int .i64 st, .slice A' ys.length cp] 46)
      have e : (w.alloc (.cells #[.int .i64 f, .int .i64 d, .int .i64 r, .int .i64 p, .float .f64 e1, .float .f64 e2, .float .f64 e3, .slice A cs.length cap] 25)).heap.size = w.heap.size + 1 := by simp
      rw [e] at h
      exact h)
    exact ⟨cell_of_row _ _ _ _ _ (0, 0) r0, cell_of_row _ _ _ _ _ (0, 0) r0, cell_of_row _ _ _ _ _ (0, 0) r0, cell_of_row _ _ _ _ _ (0, 0) r0, cell_of_row _ _ _ _ _ (0, 0) r0, cell_of_row _ _ _ _ _ (0, 0) r0, cell_of_row _ _ _ _ _ (0, 0) r0, cell_of_row _ _ _ _ _ (0, 0) r0, cell_of_row _ _ _ _ _ (0, 0) r1, cell_of_row _ _ _ _ _ (0, 0) r1, cell_of_row _ _ _ _ _ (0, 0) r1, cell_of_row _ _ _ _ _ (0, 0) r1, cell_of_row _ _ _ _ _ (0, 0) r1, cell_of_row _ _ _ _ _ (0, 0) r1, cell_of_row _ _ _ _ _ (0, 0) r1, cell_of_row _ _ _ _ _ (0, 0) r1⟩
  clear hW0
  refine (F1.out W0 HBW.out).mono ?_
  rintro e w1 ⟨rfl, hb1⟩
  obtain ⟨a0, a1, a2, a3, a4, a5, a6, a7, a8, a9, a10, a11, a12, a13, a14, a15⟩ := HB.out w1 hb1
  have HX := Lib.hid hb1
  clear hb1
  go_wp2_with fail
  clear a0 a1 a2 a3 a4 a5 a6 a7 a8 a9 a10 a11 a12 a13 a14 a15
  refine (FW.out au ad w1 (HBW.out.trans (HX.out.mono (by omega))) hau had).mono ?_
  rintro e w2 ⟨rfl, hb2⟩
  rw [qa]
  have hx2 := HX.out.trans (hb2.mono HX.out.size)
  obtain ⟨a0, a1, a2, a3, a4, a5, a6, a7, a8, a9, a10, a11, a12, a13, a14, a15⟩ := HB.out w2 hx2
  have HX := Lib.hid hx2
  clear hb2 hx2
  go_wp2_with fail
  clear a0 a1 a2 a3 a4 a5 a6 a7 a8 a9 a10 a11 a12 a13 a14 a15
  refine (FW.out su sd w2 (HBW.out.trans (HX.out.mono (by omega))) hsu hsd).mono ?_
  rintro e w3 ⟨rfl, hb2⟩
  rw [qb]
  have hx2 := HX.out.trans (hb2.mono HX.out.size)
  obtain ⟨a0, a1, a2, a3, a4, a5, a6, a7, a8, a9, a10, a11, a12, a13, a14, a15⟩ := HB.out w3 hx2
  have HX := Lib.hid hx2
  clear hb2 hx2
  go_wp2_with fail
  clear a0 a1 a2 a3 a4 a5 a6 a7 a8 a9 a10 a11 a12 a13 a14 a15
  refine (refBetween_any st 0 65535 _).mono ?_
  rintro e w4 ⟨rfl, rfl⟩
  rw [qc]
  obtain ⟨a0, a1, a2, a3, a4, a5, a6, a7, a8, a9, a10, a11, a12, a13, a14, a15⟩ := HB.out w4 HX.out
  go_wp2_with fail
  clear a0 a1 a2 a3 a4 a5 a6 a7 a8 a9 a10 a11 a12 a13 a14 a15
  go_loopw [5] (fun v wr => ∃ m : Nat, m ≤ ys.length ∧ v = .int .i64 m ∧ (ys.take m).all CI = true ∧ Below W0.heap.size W0 wr) (fun v _ => ys.length - (intOf v).toNat)
  case atStart => exact ⟨0, Nat.zero_le _, rfl, rfl, HX.out⟩
  case round =>
    obtain ⟨m, hm, rfl, hall, hbr⟩ := hrel
    have hs0r : W0.heap.size ≤ wr.heap.size := hbr.size
    obtain ⟨a0, a1, a2, a3, a4, a5, a6, a7, a8, a9, a10, a11, a12, a13, a14, a15⟩ := HB.out wr hbr
    have HBR := Lib.hid hbr
    have HALL := Lib.hid hall
    clear hbr hall
    rcases Nat.lt_or_ge m ys.length with hlt | hge
    case inr =>
      obtain rfl : m = ys.length := by omega
      go_wp2_with fail
      go_ret
      have hall := HALL.out
      rw [List.take_length] at hall
      have hR : R = true := by rw [HIS.out, hall, HL.out]; rfl
      exact ⟨by subst hR; rfl, HBW.out.trans (HBR.out.mono (by omega))⟩
    have hbwr := HBW.out.trans (HBR.out.mono (by omega))
    rcases HV.out.below hbwr with h0 | ⟨b, off, rfl, hv⟩
    · subst h0; simp at hlt
    have g := hv m hlt
    have hsc := HSC.out ys[m] (List.getElem_mem hlt)
    have HNO : Hid (CI ys[m] = false → ys.all CI = false) := HNOX.out m hlt
    have HYES : Hid (CI ys[m] = true → (ys.take (m + 1)).all CI = true) := fun h => HYESX.out m hlt h HALL.out
    clear hbwr hv
    generalize ys[m] = c at g hsc HNO HYES
    have g0 : wr.cell? ⟨b, off + m * 9, none⟩ = some (.int .u32 c.iu) := g 0 _ rfl
    have g1 : wr.cell? ⟨b, off + m * 9 + 1, none⟩ = some (.int .u32 c.id) := g 1 _ rfl
    have g2 : wr.cell? ⟨b, off + m * 9 + 2, none⟩ = some (.bool c.cut) := g 2 _ rfl
    have g3 : wr.cell? ⟨b, off + m * 9 + 3, none⟩ = some (.int .u32 c.lu) := g 3 _ rfl
    have g4 : wr.cell? ⟨b, off + m * 9 + 4, none⟩ = some (.int .u32 c.ld) := g 4 _ rfl
    have g5 : wr.cell? ⟨b, off + m * 9 + 5, none⟩ = some (.bool c.gong) := g 5 _ rfl
    have g6 : wr.cell? ⟨b, off + m * 9 + 6, none⟩ = some (.int .i64 c.cmd) := g 6 _ rfl
    have g7 : wr.cell? ⟨b, off + m * 9 + 7, none⟩ = some (.int .i64 c.ph) := g 7 _ rfl
    have g8 : wr.cell? ⟨b, off + m * 9 + 8, none⟩ = some (.bool c.flag) := g 8 _ rfl
    have hbl : b < wr.heap.size := World.block_lt_of_cell? wr _ g0
    clear g
    have hpast : ∀ o j, (wr.alloc o).cell? ⟨w.heap.size, j, none⟩ = wr.cell? ⟨w.heap.size, j, none⟩ := fun o j => World.cell?_of_block (w := wr) (Below.heap_alloc wr o w.heap.size (by omega))
    have p0 := fun o => (hpast o 0).trans a0
    have p1 := fun o => (hpast o 1).trans a1
    have p2 := fun o => (hpast o 2).trans a2
    have p3 := fun o => (hpast o 3).trans a3
    have p4 := fun o => (hpast o 4).trans a4
    have p5 := fun o => (hpast o 5).trans a5
    have p6 := fun o => (hpast o 6).trans a6
    have p7 := fun o => (hpast o 7).trans a7
    clear hpast
    go_wp2_with fail
    obtain ⟨W1, hW1⟩ : ∃ W1, W1 = wr.alloc (.cells #[.int .u32 c.iu, .int .u32 c.id, .bool c.cut, .int .u32 c.lu, .int .u32 c.ld, .bool c.gong, .int .i64 c.cmd, .int .i64 c.ph, .bool c.flag] 93) := ⟨_, rfl⟩
    rw [← hW1]
    have hs1 : W1.heap.size = wr.heap.size + 1 := by rw [hW1]; simp
    have HB1B : Hid (Below W0.heap.size W0 W1) := by rw [hW1]; exact HBR.out.alloc hs0r _
    have HB1 : Hid (∀ wx, Below W1.heap.size W1 wx → wx.cell? ⟨w.heap.size, 0, none⟩ = some (.int .i64 f) ∧ wx.cell? ⟨w.heap.size, 1, none⟩ = some (.int .i64 d) ∧ wx.cell? ⟨w.heap.size, 2, none⟩ = some (.int .i64 r) ∧ wx.cell? ⟨w.heap.size, 3, none⟩ = some (.int .i64 p) ∧ wx.cell? ⟨w.heap.size, 4, none⟩ = some (.float .f64 e1) ∧ wx.cell? ⟨w.heap.size, 5, none⟩ = some (.float .f64 e2) ∧ wx.cell? ⟨w.heap.size, 6, none⟩ = some (.float .f64 e3) ∧ wx.cell? ⟨w.heap.size, 7, none⟩ = some (.slice A cs.length cap) ∧ wx.cell? ⟨wr.heap.size, 0, none⟩ = some (.int .u32 c.iu) ∧ wx.cell? ⟨wr.heap.size, 1, none⟩ = some (.int .u32 c.id) ∧ wx.cell? ⟨wr.heap.size, 2, none⟩ = some (.bool c.cut) ∧ wx.cell? ⟨wr.heap.size, 3, none⟩ = some (.int .u32 c.lu) ∧ wx.cell? ⟨wr.heap.size, 4, none⟩ = some (.int .u32 c.ld) ∧ wx.cell? ⟨wr.heap.size, 5, none⟩ = some (.bool c.gong) ∧ wx.cell? ⟨wr.heap.size, 6, none⟩ = some (.int .i64 c.cmd) ∧ wx.cell? ⟨wr.heap.size, 7, none⟩ = some (.int .i64 c.ph) ∧ wx.cell? ⟨wr.heap.size, 8, none⟩ = some (.bool c.flag)) := fun wx h => by
      obtain ⟨a0, a1, a2, a3, a4, a5, a6, a7, -⟩ := HB.out wx (HB1B.out.trans (h.mono (by omega)))
      have r1 : wx.heap[wr.heap.size]? = some (.cells #[.int .u32 c.iu, .int .u32 c.id, .bool c.cut, .int .u32 c.lu, .int .u32 c.ld, .bool c.gong, .int .i64 c.cmd, .int .i64 c.ph, .bool c.flag] 93 (0, 0)) := (h.block _ (by omega)).trans (by rw [hW1]; exact heap_alloc_new wr _)
      exact ⟨a0, a1, a2, a3, a4, a5, a6, a7, cell_of_row _ _ _ _ _ (0, 0) r1, cell_of_row _ _ _ _ _ (0, 0) r1, cell_of_row _ _ _ _ _ (0, 0) r1, cell_of_row _ _ _ _ _ (0, 0) r1, cell_of_row _ _ _ _ _ (0, 0) r1, cell_of_row _ _ _ _ _ (0, 0) r1, cell_of_row _ _ _ _ _ (0, 0) r1, cell_of_row _ _ _ _ _ (0, 0) r1, cell_of_row _ _ _ _ _ (0, 0) r1⟩
    clear hW1 p0 p1 p2 p3 p4 p5 p6 p7 a0 a1 a2 a3 a4 a5 a6 a7 a8 a9 a10 a11 a12 a13 a14 a15 g0 g1 g2 g3 g4 g5 g6 g7 g8
    cases q1 : (setB c.iu U && setB c.id D)
    case false =>
      refine (FW.out c.iu c.id W1 (HBW.out.trans ((HB1B.out).mono (by have := HB1B.out.size; omega))) hsc.1.1 hsc.1.2).mono ?_
      rintro e w5 ⟨rfl, hb5⟩
      rw [q1]
      have hx5 := hb5
      obtain ⟨a0, a1, a2, a3, a4, a5, a6, a7, c0, c1, c2, c3, c4, c5, c6, c7, c8⟩ := HB1.out w5 hx5
      have HX5 := Lib.hid hx5
      clear hb5 hx5
      go_wp2_with fail
      go_ret
      have hR : R = false := by rw [HIS.out, HNO.out (by rw [HCI.out, q1]; rfl), Bool.and_false]
      exact ⟨by subst hR; rfl, HBW.out.trans ((HB1B.out.trans (HX5.out.mono (by have := HB1B.out.size; omega))).mono (by omega))⟩
    cases q2 : (setB c.lu U && setB c.ld D)
    case false =>
      refine (FW.out c.iu c.id W1 (HBW.out.trans ((HB1B.out).mono (by have := HB1B.out.size; omega))) hsc.1.1 hsc.1.2).mono ?_
      rintro e w5 ⟨rfl, hb5⟩
      rw [q1]
      have hx5 := hb5
      obtain ⟨a0, a1, a2, a3, a4, a5, a6, a7, c0, c1, c2, c3, c4, c5, c6, c7, c8⟩ := HB1.out w5 hx5
      have HX5 := Lib.hid hx5
      clear hb5 hx5
      go_wp2_with fail
      clear a0 a1 a2 a3 a4 a5 a6 a7 c0 c1 c2 c3 c4 c5 c6 c7 c8
      refine (FW.out c.lu c.ld w5 (HBW.out.trans ((HB1B.out.trans (HX5.out.mono (by have := HB1B.out.size; omega))).mono (by have := HB1B.out.size; omega))) hsc.2.1.1 hsc.2.1.2).mono ?_
      rintro e w6 ⟨rfl, hb5⟩
      rw [q2]
      have hx5 := HX5.out.trans (hb5.mono HX5.out.size)
      obtain ⟨a0, a1, a2, a3, a4, a5, a6, a7, c0, c1, c2, c3, c4, c5, c6, c7, c8⟩ := HB1.out w6 hx5
      have HX5 := Lib.hid hx5
      clear hb5 hx5
      go_wp2_with fail
      go_ret
      have hR : R = false := by rw [HIS.out, HNO.out (by rw [HCI.out, q1, q2]; rfl), Bool.and_false]
      exact ⟨by subst hR; rfl, HBW.out.trans ((HB1B.out.trans (HX5.out.mono (by have := HB1B.out.size; omega))).mono (by omega))⟩
    cases q3 : inB 0 5 c.cmd
    case false =>
      refine (FW.out c.iu c.id W1 (HBW.out.trans ((HB1B.out).mono (by have := HB1B.out.size; omega))) hsc.1.1 hsc.1.2).mono ?_
      rintro e w5 ⟨rfl, hb5⟩
      rw [q1]
      have hx5 := hb5
      obtain ⟨a0, a1, a2, a3, a4, a5, a6, a7, c0, c1, c2, c3, c4, c5, c6, c7, c8⟩ := HB1.out w5 hx5
      have HX5 := Lib.hid hx5
      clear hb5 hx5
      go_wp2_with fail
      clear a0 a1 a2 a3 a4 a5 a6 a7 c0 c1 c2 c3 c4 c5 c6 c7 c8
      refine (FW.out c.lu c.ld w5 (HBW.out.trans ((HB1B.out.trans (HX5.out.mono (by have := HB1B.out.size; omega))).mono (by have := HB1B.out.size; omega))) hsc.2.1.1 hsc.2.1.2).mono ?_
      rintro e w6 ⟨rfl, hb5⟩
      rw [q2]
      have hx5 := HX5.out.trans (hb5.mono HX5.out.size)
      obtain ⟨a0, a1, a2, a3, a4, a5, a6, a7, c0, c1, c2, c3, c4, c5, c6, c7, c8⟩ := HB1.out w6 hx5
      have HX5 := Lib.hid hx5
      clear hb5 hx5
      go_wp2_with fail
      clear a0 a1 a2 a3 a4 a5 a6 a7 c0 c1 c2 c3 c4 c5 c6 c7 c8
      refine (refBetween_any c.cmd 0 5 _).mono ?_
      rintro e w7 ⟨rfl, rfl⟩
      rw [q3]
      obtain ⟨a0, a1, a2, a3, a4, a5, a6, a7, c0, c1, c2, c3, c4, c5, c6, c7, c8⟩ := HB1.out w7 HX5.out
      go_wp2_with fail
      go_ret
      have hR : R = false := by rw [HIS.out, HNO.out (by rw [HCI.out, q1, q2, q3]; rfl), Bool.and_false]
      exact ⟨by subst hR; rfl, HBW.out.trans ((HB1B.out.trans (HX5.out.mono (by have := HB1B.out.size; omega))).mono (by omega))⟩
    cases q4 : inB 0 4 c.ph
    case false =>
      refine (FW.out c.iu c.id W1 (HBW.out.trans ((HB1B.out).mono (by have := HB1B.out.size; omega))) hsc.1.1 hsc.1.2).mono ?_
      rintro e w5 ⟨rfl, hb5⟩
      rw [q1]
      have hx5 := hb5
      obtain ⟨a0, a1, a2, a3, a4, a5, a6, a7, c0, c1, c2, c3, c4, c5, c6, c7, c8⟩ := HB1.out w5 hx5
      have HX5 := Lib.hid hx5
      clear hb5 hx5
      go_wp2_with fail
      clear a0 a1 a2 a3 a4 a5 a6 a7 c0 c1 c2 c3 c4 c5 c6 c7 c8
      refine (FW.out c.lu c.ld w5 (HBW.out.trans ((HB1B.out.trans (HX5.out.mono (by have := HB1B.out.size; omega))).mono (by have := HB1B.out.size; omega))) hsc.2.1.1 hsc.2.1.2).mono ?_
      rintro e w6 ⟨rfl, hb5⟩
      rw [q2]
      have hx5 := HX5.out.trans (hb5.mono HX5.out.size)
      obtain ⟨a0, a1, a2, a3, a4, a5, a6, a7, c0, c1, c2, c3, c4, c5, c6, c7, c8⟩ := HB1.out w6 hx5
      have HX5 := Lib.hid hx5
      clear hb5 hx5
      go_wp2_with fail
      clear a0 a1 a2 a3 a4 a5 a6 a7 c0 c1 c2 c3 c4 c5 c6 c7 c8
      refine (refBetween_any c.cmd 0 5 _).mono ?_
      rintro e w7 ⟨rfl, rfl⟩
      rw [q3]
      obtain ⟨a0, a1, a2, a3, a4, a5, a6, a7, c0, c1, c2, c3, c4, c5, c6, c7, c8⟩ := HB1.out w7 HX5.out
      go_wp2_with fail
      clear a0 a1 a2 a3 a4 a5 a6 a7 c0 c1 c2 c3 c4 c5 c6 c7 c8
      refine (refBetween_any c.ph 0 4 _).mono ?_
      rintro e w8 ⟨rfl, rfl⟩
      rw [q4]
      obtain ⟨a0, a1, a2, a3, a4, a5, a6, a7, c0, c1, c2, c3, c4, c5, c6, c7, c8⟩ := HB1.out w8 HX5.out
      go_wp2_with fail
      go_ret
      have hR : R = false := by rw [HIS.out, HNO.out (by rw [HCI.out, q1, q2, q3, q4]; rfl), Bool.and_false]
      exact ⟨by subst hR; rfl, HBW.out.trans ((HB1B.out.trans (HX5.out.mono (by have := HB1B.out.size; omega))).mono (by omega))⟩
    refine (FW.out c.iu c.id W1 (HBW.out.trans ((HB1B.out).mono (by have := HB1B.out.size; omega))) hsc.1.1 hsc.1.2).mono ?_
    rintro e w5 ⟨rfl, hb5⟩
    rw [q1]
    have hx5 := hb5
    obtain ⟨a0, a1, a2, a3, a4, a5, a6, a7, c0, c1, c2, c3, c4, c5, c6, c7, c8⟩ := HB1.out w5 hx5
    have HX5 := Lib.hid hx5
    clear hb5 hx5
    go_wp2_with fail
    clear a0 a1 a2 a3 a4 a5 a6 a7 c0 c1 c2 c3 c4 c5 c6 c7 c8
    refine (FW.out c.lu c.ld w5 (HBW.out.trans ((HB1B.out.trans (HX5.out.mono (by have := HB1B.out.size; omega))).mono (by have := HB1B.out.size; omega))) hsc.2.1.1 hsc.2.1.2).mono ?_
    rintro e w6 ⟨rfl, hb5⟩
    rw [q2]
    have hx5 := HX5.out.trans (hb5.mono HX5.out.size)
    obtain ⟨a0, a1, a2, a3, a4, a5, a6, a7, c0, c1, c2, c3, c4, c5, c6, c7, c8⟩ := HB1.out w6 hx5
    have HX5 := Lib.hid hx5
    clear hb5 hx5
    go_wp2_with fail
    clear a0 a1 a2 a3 a4 a5 a6 a7 c0 c1 c2 c3 c4 c5 c6 c7 c8
    refine (refBetween_any c.cmd 0 5 _).mono ?_
    rintro e w7 ⟨rfl, rfl⟩
    rw [q3]
    obtain ⟨a0, a1, a2, a3, a4, a5, a6, a7, c0, c1, c2, c3, c4, c5, c6, c7, c8⟩ := HB1.out w7 HX5.out
    go_wp2_with fail
    clear a0 a1 a2 a3 a4 a5 a6 a7 c0 c1 c2 c3 c4 c5 c6 c7 c8
    refine (refBetween_any c.ph 0 4 _).mono ?_
    rintro e w8 ⟨rfl, rfl⟩
    rw [q4]
    obtain ⟨a0, a1, a2, a3, a4, a5, a6, a7, c0, c1, c2, c3, c4, c5, c6, c7, c8⟩ := HB1.out w8 HX5.out
    go_wp2_with fail
    go_roundw
    case rel => exact ⟨m + 1, by omega, by go_num, HYES.out (by rw [HCI.out, q1, q2, q3, q4]; rfl), HB1B.out.trans (HX5.out.mono (by have := HB1B.out.size; omega))⟩
    case measure => simp [intOf]; omega

theorem coIs_iff (x : BldD) (c : CarOut) : coIs x c = true ↔ okCo c (hallUp x) (hallDown x) := by
  simp [coIs, okCo, and_assoc]
theorem ohIs_iff (x : BldD) (h : OutH) : ohIs x h = true ↔ okOh h (hallUp x) (hallDown x) := by
  simp [ohIs, okOh, and_assoc]
theorem ouOk_of {t : List UInt8} {y : Ou} {u d C : Nat} (h1 : y.cars.length = C) (h2 : okOh y.h u d) (h3 : ∀ c ∈ y.cars, okCo c u d) : Kind.ouOk .wr t y u d C :=
  ⟨h1, ⟨h2.1, h2.2.1, flg_lt y.h.flags, h2.2.2⟩, fun i h => ⟨(h3 _ (List.getElem_mem h)).1, (h3 _ (List.getElem_mem h)).2.1, flg_lt (y.cars[i]).flags, (h3 _ (List.getElem_mem h)).2.2.1, (h3 _ (List.getElem_mem h)).2.2.2⟩⟩
theorem isOut_iff (x : BldD) (y : Ou) (hv : validE x = 0) : isOutB x y = true ↔ ouOk x y := by
  unfold isOutB
  rw [Bool.and_eq_true, Bool.and_eq_true, ohIs_iff, decide_eq_true_iff, List.all_eq_true]
  constructor
  · rintro ⟨⟨h1, h2⟩, h3⟩
    exact ⟨hv, ouOk_of (by omega) h1 (fun c hc => (coIs_iff x c).1 (h3 c hc))⟩
  · rintro ⟨-, ok⟩
    obtain ⟨h1, h2, h3⟩ := ouOk_wr ok
    exact ⟨⟨h2, by omega⟩, fun c hc => (coIs_iff x c).2 (h3 c hc)⟩
end Go.Proofs.Ythbfpdkgbkpmiaa
