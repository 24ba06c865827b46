/- What the texts behind this one rest on: several texts in one. No statement of the seat is proved here. -/
import Derived.Test.YtapkjknpoafhjaaFrRefA
import Derived.Test.YtapkjknpoafhjaaFrOutB
import Derived.Test.YtapkjknpoafhjaaBag
import Derived.Test.YtapkjknpoafhjaaWriteBack
namespace Go.Proofs.Ytapkjknpoafhjaa
section
open Go.RowKit Frm

def coIs (x : BldD) (c : CarOut) : Bool := (setB c.iu (hallUp x) && setB c.id (hallDown x)) && ((setB c.lu (hallUp x) && setB c.ld (hallDown x)) && (inB 0 5 c.cmd && inB 0 4 c.ph))
def ohIs (x : BldD) (h : OutH) : Bool := (setB h.au (hallUp x) && setB h.ad (hallDown x)) && ((setB h.su (hallUp x) && setB h.sd (hallDown x)) && inB 0 65535 h.st)
def isOutB (x : BldD) (y : Ou) : Bool := (ohIs x y.h && decide ((y.cars.length : Int) = (x.cars.length : Int))) && y.cars.all (coIs x)
theorem allO_no {x : BldD} {ys : List CarOut} {m : Nat} (h : m < ys.length) (hc : coIs x ys[m] = false) : ys.all (coIs x) = false := by
  rw [List.all_eq_false]
  exact ⟨ys[m], List.getElem_mem h, by simp [hc]⟩
theorem allO_take {x : BldD} {ys : List CarOut} {m : Nat} (h : m < ys.length) (hc : coIs x ys[m] = true) (ht : (ys.take m).all (coIs x) = true) : (ys.take (m + 1)).all (coIs x) = true := by
  rw [List.take_succ_eq_append_getElem h, List.all_append, ht]
  simp [hc]

set_option maxRecDepth 100000 in
set_option maxHeartbeats 4000000 in
theorem refIsOut_any (x : BldD) (A : Option Addr) (cap : Nat) (y : Ou) (A' : Option Addr) (cp : Nat) (w : World) (hva : validE x = 0) (hxn : x.cars.length ≤ 140737488355328) (hc : CarsAt w w.heap.size A x.cars) (hn : y.cars.length ≤ 1000) (hy : saneOu y) (hv : CosV w A' y.cars) :
    Calls Try.prog 41 #[x.agg A cap, ouAgg y A' cp] w fun e w' => e = .returned (.bool (isOutB x y)) ∧ Below w.heap.size w w' := by
  have F1 := Lib.hid (fun wx (h : Below w.heap.size w wx) => refValid_any x A cap wx hxn ((hc.below h).more h.size))
  have FW := Lib.hid (fun u d wx (h : Below w.heap.size w wx) hu hd => refWithin_any x A cap u d wx hxn ((hc.below h).more h.size) hu hd)
  rw [hva] at F1
  have HV := Lib.hid hv
  have HSH : Hid (saneOh y.h) := hy.1
  have HSC : Hid (∀ c ∈ y.cars, saneCo c) := hy.2
  clear hc hv hy hva
  have HIS : Hid (isOutB x y = ((ohIs x y.h && decide ((y.cars.length : Int) = (x.cars.length : Int))) && y.cars.all (coIs x))) := rfl
  have HHS : Hid (ohIs x y.h = ((setB y.h.au (hallUp x) && setB y.h.ad (hallDown x)) && ((setB y.h.su (hallUp x) && setB y.h.sd (hallDown x)) && inB 0 65535 y.h.st))) := rfl
  have HCI : Hid (∀ c, coIs x c = ((setB c.iu (hallUp x) && setB c.id (hallDown x)) && ((setB c.lu (hallUp x) && setB c.ld (hallDown x)) && (inB 0 5 c.cmd && inB 0 4 c.ph)))) := fun _ => rfl
  have HNOX : Hid (∀ m (h : m < y.cars.length), coIs x y.cars[m] = false → y.cars.all (coIs x) = false) := fun m h => allO_no h
  have HYESX : Hid (∀ m (h : m < y.cars.length), coIs x y.cars[m] = true → (y.cars.take m).all (coIs x) = true → (y.cars.take (m + 1)).all (coIs x) = true) := fun m h => allO_take h
  generalize isOutB x y = R at *
  generalize coIs x = CI at *
  generalize ohIs x y.h = HD at *
  obtain ⟨⟨au, ad, su, sd, bad, full, st⟩, ys⟩ := y
  obtain ⟨⟨hau, had⟩, ⟨hsu, hsd⟩, -⟩ := HSH.out
  simp only at hau had hsu hsd
  clear HSH
  generalize hallUp x = U at *
  generalize hallDown x = D at *
  obtain ⟨f, d, r, p, e1, e2, e3, cs⟩ := x
  simp only [BldD.agg, ouAgg, callsV] at *
  cases qa : (setB au U && setB ad D)
  case false =>
    obtain rfl : HD = false := by rw [HHS.out, qa]; rfl
    obtain rfl : R = false := by rw [HIS.out]; rfl
    go_enter Try.func41, Try.ntmps41
    go_wp2_with fail
    obtain ⟨W0, hW0⟩ : ∃ W0, W0 = (w.alloc (.cells #[.int .i64 f, .int .i64 d, .int .i64 r, .int .i64 p, .float .f64 e1, .float .f64 e2, .float .f64 e3, .slice A cs.length cap] 25)).alloc (.cells #[.int .u32 au, .int .u32 ad, .int .u32 su, .int .u32 sd, .bool bad, .bool full, .int .i64 st, .slice A' ys.length cp] 46) := ⟨_, rfl⟩
    rw [← hW0]
    have hs0 : W0.heap.size = w.heap.size + 2 := by rw [hW0]; simp
    have HBW : Hid (Below w.heap.size w W0) := by rw [hW0]; exact ((Below.refl _ _).alloc (Nat.le_refl _) _).alloc (by simp) _
    have HB : Hid (∀ wx, Below W0.heap.size W0 wx → wx.cell? ⟨w.heap.size, 0, none⟩ = some (.int .i64 f) ∧ wx.cell? ⟨w.heap.size, 1, none⟩ = some (.int .i64 d) ∧ wx.cell? ⟨w.heap.size, 2, none⟩ = some (.int .i64 r) ∧ wx.cell? ⟨w.heap.size, 3, none⟩ = some (.int .i64 p) ∧ wx.cell? ⟨w.heap.size, 4, none⟩ = some (.float .f64 e1) ∧ wx.cell? ⟨w.heap.size, 5, none⟩ = some (.float .f64 e2) ∧ wx.cell? ⟨w.heap.size, 6, none⟩ = some (.float .f64 e3) ∧ wx.cell? ⟨w.heap.size, 7, none⟩ = some (.slice A cs.length cap) ∧ wx.cell? ⟨w.heap.size + 1, 0, none⟩ = some (.int .u32 au) ∧ wx.cell? ⟨w.heap.size + 1, 1, none⟩ = some (.int .u32 ad) ∧ wx.cell? ⟨w.heap.size + 1, 2, none⟩ = some (.int .u32 su) ∧ wx.cell? ⟨w.heap.size + 1, 3, none⟩ = some (.int .u32 sd) ∧ wx.cell? ⟨w.heap.size + 1, 4, none⟩ = some (.bool bad) ∧ wx.cell? ⟨w.heap.size + 1, 5, none⟩ = some (.bool full) ∧ wx.cell? ⟨w.heap.size + 1, 6, none⟩ = some (.int .i64 st) ∧ wx.cell? ⟨w.heap.size + 1, 7, none⟩ = some (.slice A' ys.length cp)) := fun wx h => by
      have r0 : wx.heap[w.heap.size]? = some (.cells #[.int .i64 f, .int .i64 d, .int .i64 r, .int .i64 p, .float .f64 e1, .float .f64 e2, .float .f64 e3, .slice A cs.length cap] 25 (0, 0)) := (h.block _ (by omega)).trans (by rw [hW0]; exact (Below.heap_alloc _ _ _ (by simp)).trans (heap_alloc_new w _))
      have r1 : wx.heap[w.heap.size + 1]? = some (.cells #[.int .u32 au, .int .u32 ad, .int .u32 su, .int .u32 sd, .bool bad, .bool full, .int .i64 st, .slice A' ys.length cp] 46 (0, 0)) := (h.block _ (by omega)).trans (by
        rw [hW0]
        have h := heap_alloc_new (w.alloc (.cells #[.int .i64 f, .int .i64 d, .int .i64 r, .int .i64 p, .float .f64 e1, .float .f64 e2, .float .f64 e3, .slice A cs.length cap] 25)) (.cells #[.int .u32 au, .int .u32 ad, .int .u32 su, .int .u32 sd, .bool bad, .bool full, .int .i64 st, .slice A' ys.length cp] 46)
        have e : (w.alloc (.cells #[.int .i64 f, .int .i64 d, .int .i64 r, .int .i64 p, .float .f64 e1, .float .f64 e2, .float .f64 e3, .slice A cs.length cap] 25)).heap.size = w.heap.size + 1 := by simp
        rw [e] at h
        exact h)
      exact ⟨cell_of_row _ _ _ _ _ (0, 0) r0, cell_of_row _ _ _ _ _ (0, 0) r0, cell_of_row _ _ _ _ _ (0, 0) r0, cell_of_row _ _ _ _ _ (0, 0) r0, cell_of_row _ _ _ _ _ (0, 0) r0, cell_of_row _ _ _ _ _ (0, 0) r0, cell_of_row _ _ _ _ _ (0, 0) r0, cell_of_row _ _ _ _ _ (0, 0) r0, cell_of_row _ _ _ _ _ (0, 0) r1, cell_of_row _ _ _ _ _ (0, 0) r1, cell_of_row _ _ _ _ _ (0, 0) r1, cell_of_row _ _ _ _ _ (0, 0) r1, cell_of_row _ _ _ _ _ (0, 0) r1, cell_of_row _ _ _ _ _ (0, 0) r1, cell_of_row _ _ _ _ _ (0, 0) r1, cell_of_row _ _ _ _ _ (0, 0) r1⟩
    clear hW0
    refine (F1.out W0 HBW.out).mono ?_
    rintro e w1 ⟨rfl, hb1⟩
    obtain ⟨a0, a1, a2, a3, a4, a5, a6, a7, a8, a9, a10, a11, a12, a13, a14, a15⟩ := HB.out w1 hb1
    have HX := Lib.hid hb1
    clear hb1
    go_wp2_with fail
    clear a0 a1 a2 a3 a4 a5 a6 a7 a8 a9 a10 a11 a12 a13 a14 a15
    refine (FW.out au ad w1 (HBW.out.trans (HX.out.mono (by omega))) hau had).mono ?_
    rintro e w2 ⟨rfl, hb2⟩
    rw [qa]
    have hx2 := HX.out.trans (hb2.mono HX.out.size)
    obtain ⟨a0, a1, a2, a3, a4, a5, a6, a7, a8, a9, a10, a11, a12, a13, a14, a15⟩ := HB.out w2 hx2
    have HX := Lib.hid hx2
    clear hb2 hx2
    go_wp2_with fail
    go_ret
    exact ⟨rfl, HBW.out.trans (HX.out.mono (by omega))⟩
  cases qb : (setB su U && setB sd D)
  case false =>
    obtain rfl : HD = false := by rw [HHS.out, qa, qb]; rfl
    obtain rfl : R = false := by rw [HIS.out]; rfl
    go_enter Try.func41, Try.ntmps41
    go_wp2_with fail
    obtain ⟨W0, hW0⟩ : ∃ W0, W0 = (w.alloc (.cells #[.int .i64 f, .int .i64 d, .int .i64 r, .int .i64 p, .float .f64 e1, .float .f64 e2, .float .f64 e3, .slice A cs.length cap] 25)).alloc (.cells #[.int .u32 au, .int .u32 ad, .int .u32 su, .int .u32 sd, .bool bad, .bool full, .int .i64 st, .slice A' ys.length cp] 46) := ⟨_, rfl⟩
    rw [← hW0]
    have hs0 : W0.heap.size = w.heap.size + 2 := by rw [hW0]; simp
    have HBW : Hid (Below w.heap.size w W0) := by rw [hW0]; exact ((Below.refl _ _).alloc (Nat.le_refl _) _).alloc (by simp) _
    have HB : Hid (∀ wx, Below W0.heap.size W0 wx → wx.cell? ⟨w.heap.size, 0, none⟩ = some (.int .i64 f) ∧ wx.cell? ⟨w.heap.size, 1, none⟩ = some (.int .i64 d) ∧ wx.cell? ⟨w.heap.size, 2, none⟩ = some (.int .i64 r) ∧ wx.cell? ⟨w.heap.size, 3, none⟩ = some (.int .i64 p) ∧ wx.cell? ⟨w.heap.size, 4, none⟩ = some (.float .f64 e1) ∧ wx.cell? ⟨w.heap.size, 5, none⟩ = some (.float .f64 e2) ∧ wx.cell? ⟨w.heap.size, 6, none⟩ = some (.float .f64 e3) ∧ wx.cell? ⟨w.heap.size, 7, none⟩ = some (.slice A cs.length cap) ∧ wx.cell? ⟨w.heap.size + 1, 0, none⟩ = some (.int .u32 au) ∧ wx.cell? ⟨w.heap.size + 1, 1, none⟩ = some (.int .u32 ad) ∧ wx.cell? ⟨w.heap.size + 1, 2, none⟩ = some (.int .u32 su) ∧ wx.cell? ⟨w.heap.size + 1, 3, none⟩ = some (.int .u32 sd) ∧ wx.cell? ⟨w.heap.size + 1, 4, none⟩ = some (.bool bad) ∧ wx.cell? ⟨w.heap.size + 1, 5, none⟩ = some (.bool full) ∧ wx.cell? ⟨w.heap.size + 1, 6, none⟩ = some (.int .i64 st) ∧ wx.cell? ⟨w.heap.size + 1, 7, none⟩ = some (.slice A' ys.length cp)) := fun wx h => by
      have r0 : wx.heap[w.heap.size]? = some (.cells #[.int .i64 f, .int .i64 d, .int .i64 r, .int .i64 p, .float .f64 e1, .float .f64 e2, .float .f64 e3, .slice A cs.length cap] 25 (0, 0)) := (h.block _ (by omega)).trans (by rw [hW0]; exact (Below.heap_alloc _ _ _ (by simp)).trans (heap_alloc_new w _))
      have r1 : wx.heap[w.heap.size + 1]? = some (.cells #[.int .u32 au, .int .u32 ad, .int .u32 su, .int .u32 sd, .bool bad, .bool full, .int .i64 st, .slice A' ys.length cp] 46 (0, 0)) := (h.block _ (by omega)).trans (by
        rw [hW0]
        have h := heap_alloc_new (w.alloc (.cells #[.int .i64 f, .int .i64 d, .int .i64 r, .int .i64 p, .float .f64 e1, .float .f64 e2, .float .f64 e3, .slice A cs.length cap] 25)) (.cells #[.int .u32 au, .int .u32 ad, .int .u32 su, .int .u32 sd, .bool bad, .bool full, .int .i64 st, .slice A' ys.length cp] 46)
        have e : (w.alloc (.cells #[.int .i64 f, .int .i64 d, .int .i64 r, .int .i64 p, .float .f64 e1, .float .f64 e2, .float .f64 e3, .slice A cs.length cap] 25)).heap.size = w.heap.size + 1 := by simp
        rw [e] at h
        exact h)
      exact ⟨cell_of_row _ _ _ _ _ (0, 0) r0, cell_of_row _ _ _ _ _ (0, 0) r0, cell_of_row _ _ _ _ _ (0, 0) r0, cell_of_row _ _ _ _ _ (0, 0) r0, cell_of_row _ _ _ _ _ (0, 0) r0, cell_of_row _ _ _ _ _ (0, 0) r0, cell_of_row _ _ _ _ _ (0, 0) r0, cell_of_row _ _ _ _ _ (0, 0) r0, cell_of_row _ _ _ _ _ (0, 0) r1, cell_of_row _ _ _ _ _ (0, 0) r1, cell_of_row _ _ _ _ _ (0, 0) r1, cell_of_row _ _ _ _ _ (0, 0) r1, cell_of_row _ _ _ _ _ (0, 0) r1, cell_of_row _ _ _ _ _ (0, 0) r1, cell_of_row _ _ _ _ _ (0, 0) r1, cell_of_row _ _ _ _ _ (0, 0) r1⟩
    clear hW0
    refine (F1.out W0 HBW.out).mono ?_
    rintro e w1 ⟨rfl, hb1⟩
    obtain ⟨a0, a1, a2, a3, a4, a5, a6, a7, a8, a9, a10, a11, a12, a13, a14, a15⟩ := HB.out w1 hb1
    have HX := Lib.hid hb1
    clear hb1
    go_wp2_with fail
    clear a0 a1 a2 a3 a4 a5 a6 a7 a8 a9 a10 a11 a12 a13 a14 a15
    refine (FW.out au ad w1 (HBW.out.trans (HX.out.mono (by omega))) hau had).mono ?_
    rintro e w2 ⟨rfl, hb2⟩
    rw [qa]
    have hx2 := HX.out.trans (hb2.mono HX.out.size)
    obtain ⟨a0, a1, a2, a3, a4, a5, a6, a7, a8, a9, a10, a11, a12, a13, a14, a15⟩ := HB.out w2 hx2
    have HX := Lib.hid hx2
    clear hb2 hx2
    go_wp2_with fail
    clear a0 a1 a2 a3 a4 a5 a6 a7 a8 a9 a10 a11 a12 a13 a14 a15
    refine (FW.out su sd w2 (HBW.out.trans (HX.out.mono (by omega))) hsu hsd).mono ?_
    rintro e w3 ⟨rfl, hb2⟩
    rw [qb]
    have hx2 := HX.out.trans (hb2.mono HX.out.size)
    obtain ⟨a0, a1, a2, a3, a4, a5, a6, a7, a8, a9, a10, a11, a12, a13, a14, a15⟩ := HB.out w3 hx2
    have HX := Lib.hid hx2
    clear hb2 hx2
    go_wp2_with fail
    go_ret
    exact ⟨rfl, HBW.out.trans (HX.out.mono (by omega))⟩
  cases qc : inB 0 65535 st
  case false =>
    obtain rfl : HD = false := by rw [HHS.out, qa, qb, qc]; rfl
    obtain rfl : R = false := by rw [HIS.out]; rfl
    go_enter Try.func41, Try.ntmps41
    go_wp2_with fail
    obtain ⟨W0, hW0⟩ : ∃ W0, W0 = (w.alloc (.cells #[.int .i64 f, .int .i64 d, .int .i64 r, .int .i64 p, .float .f64 e1, .float .f64 e2, .float .f64 e3, .slice A cs.length cap] 25)).alloc (.cells #[.int .u32 au, .int .u32 ad, .int .u32 su, .int .u32 sd, .bool bad, .bool full, .int .i64 st, .slice A' ys.length cp] 46) := ⟨_, rfl⟩
    rw [← hW0]
    have hs0 : W0.heap.size = w.heap.size + 2 := by rw [hW0]; simp
    have HBW : Hid (Below w.heap.size w W0) := by rw [hW0]; exact ((Below.refl _ _).alloc (Nat.le_refl _) _).alloc (by simp) _
    have HB : Hid (∀ wx, Below W0.heap.size W0 wx → wx.cell? ⟨w.heap.size, 0, none⟩ = some (.int .i64 f) ∧ wx.cell? ⟨w.heap.size, 1, none⟩ = some (.int .i64 d) ∧ wx.cell? ⟨w.heap.size, 2, none⟩ = some (.int .i64 r) ∧ wx.cell? ⟨w.heap.size, 3, none⟩ = some (.int .i64 p) ∧ wx.cell? ⟨w.heap.size, 4, none⟩ = some (.float .f64 e1) ∧ wx.cell? ⟨w.heap.size, 5, none⟩ = some (.float .f64 e2) ∧ wx.cell? ⟨w.heap.size, 6, none⟩ = some (.float .f64 e3) ∧ wx.cell? ⟨w.heap.size, 7, none⟩ = some (.slice A cs.length cap) ∧ wx.cell? ⟨w.heap.size + 1, 0, none⟩ = some (.int .u32 au) ∧ wx.cell? ⟨w.heap.size + 1, 1, none⟩ = some (.int .u32 ad) ∧ wx.cell? ⟨w.heap.size + 1, 2, none⟩ = some (.int .u32 su) ∧ wx.cell? ⟨w.heap.size + 1, 3, none⟩ = some (.int .u32 sd) ∧ wx.cell? ⟨w.heap.size + 1, 4, none⟩ = some (.bool bad) ∧ wx.cell? ⟨w.heap.size + 1, 5, none⟩ = some (.bool full) ∧ wx.cell? ⟨w.heap.size + 1, 6, none⟩ = some (.int .i64 st) ∧ wx.cell? ⟨w.heap.size + 1, 7, none⟩ = some (.slice A' ys.length cp)) := fun wx h => by
      have r0 : wx.heap[w.heap.size]? = some (.cells #[.int .i64 f, .int .i64 d, .int .i64 r, .int .i64 p, .float .f64 e1, .float .f64 e2, .float .f64 e3, .slice A cs.length cap] 25 (0, 0)) := (h.block _ (by omega)).trans (by rw [hW0]; exact (Below.heap_alloc _ _ _ (by simp)).trans (heap_alloc_new w _))
      have r1 : wx.heap[w.heap.size + 1]? = some (.cells #[.int .u32 au, .int .u32 ad, .int .u32 su, .int .u32 sd, .bool bad, .bool full, .int .i64 st, .slice A' ys.length cp] 46 (0, 0)) := (h.block _ (by omega)).trans (by
        rw [hW0]
        have h := heap_alloc_new (w.alloc (.cells #[.int .i64 f, .int .i64 d, .int .i64 r, .int .i64 p, .float .f64 e1, .float .f64 e2, .float .f64 e3, .slice A cs.length cap] 25)) (.cells #[.int .u32 au, .int .u32 ad, .int .u32 su, .int .u32 sd, .bool bad, .bool full, .int .i64 st, .slice A' ys.length cp] 46)
        have e : (w.alloc (.cells #[.int .i64 f, .int .i64 d, .int .i64 r, .int .i64 p, .float .f64 e1, .float .f64 e2, .float .f64 e3, .slice A cs.length cap] 25)).heap.size = w.heap.size + 1 := by simp
        rw [e] at h
        exact h)
      exact ⟨cell_of_row _ _ _ _ _ (0, 0) r0, cell_of_row _ _ _ _ _ (0, 0) r0, cell_of_row _ _ _ _ _ (0, 0) r0, cell_of_row _ _ _ _ _ (0, 0) r0, cell_of_row _ _ _ _ _ (0, 0) r0, cell_of_row _ _ _ _ _ (0, 0) r0, cell_of_row _ _ _ _ _ (0, 0) r0, cell_of_row _ _ _ _ _ (0, 0) r0, cell_of_row _ _ _ _ _ (0, 0) r1, cell_of_row _ _ _ _ _ (0, 0) r1, cell_of_row _ _ _ _ _ (0, 0) r1, cell_of_row _ _ _ _ _ (0, 0) r1, cell_of_row _ _ _ _ _ (0, 0) r1, cell_of_row _ _ _ _ _ (0, 0) r1, cell_of_row _ _ _ _ _ (0, 0) r1, cell_of_row _ _ _ _ _ (0, 0) r1⟩
    clear hW0
    refine (F1.out W0 HBW.out).mono ?_
    rintro e w1 ⟨rfl, hb1⟩
    obtain ⟨a0, a1, a2, a3, a4, a5, a6, a7, a8, a9, a10, a11, a12, a13, a14, a15⟩ := HB.out w1 hb1
    have HX := Lib.hid hb1
    clear hb1
    go_wp2_with fail
    clear a0 a1 a2 a3 a4 a5 a6 a7 a8 a9 a10 a11 a12 a13 a14 a15
    refine (FW.out au ad w1 (HBW.out.trans (HX.out.mono (by omega))) hau had).mono ?_
    rintro e w2 ⟨rfl, hb2⟩
    rw [qa]
    have hx2 := HX.out.trans (hb2.mono HX.out.size)
    obtain ⟨a0, a1, a2, a3, a4, a5, a6, a7, a8, a9, a10, a11, a12, a13, a14, a15⟩ := HB.out w2 hx2
    have HX := Lib.hid hx2
    clear hb2 hx2
    go_wp2_with fail
    clear a0 a1 a2 a3 a4 a5 a6 a7 a8 a9 a10 a11 a12 a13 a14 a15
    refine (FW.out su sd w2 (HBW.out.trans (HX.out.mono (by omega))) hsu hsd).mono ?_
    rintro e w3 ⟨rfl, hb2⟩
    rw [qb]
    have hx2 := HX.out.trans (hb2.mono HX.out.size)
    obtain ⟨a0, a1, a2, a3, a4, a5, a6, a7, a8, a9, a10, a11, a12, a13, a14, a15⟩ := HB.out w3 hx2
    have HX := Lib.hid hx2
    clear hb2 hx2
    go_wp2_with fail
    clear a0 a1 a2 a3 a4 a5 a6 a7 a8 a9 a10 a11 a12 a13 a14 a15
    refine (refBetween_any st 0 65535 _).mono ?_
    rintro e w4 ⟨rfl, rfl⟩
    rw [qc]
    obtain ⟨a0, a1, a2, a3, a4, a5, a6, a7, a8, a9, a10, a11, a12, a13, a14, a15⟩ := HB.out w4 HX.out
    go_wp2_with fail
    go_ret
    exact ⟨rfl, HBW.out.trans (HX.out.mono (by omega))⟩
  obtain rfl : HD = true := by rw [HHS.out, qa, qb, qc]; rfl
  by_cases hl : (ys.length : Int) = (cs.length : Int)
  case neg =>
    have hlb : ((ys.length : Int) != (cs.length : Int)) = true := bne_iff_ne.2 hl
    obtain rfl : R = false := by rw [HIS.out, decide_eq_false hl]; rfl
    clear hl
    go_enter Try.func41, Try.ntmps41
    go_wp2_with fail
    obtain ⟨W0, hW0⟩ : ∃ W0, W0 = (w.alloc (.cells #[.int .i64 f, .int .i64 d, .int .i64 r, .int .i64 p, .float .f64 e1, .float .f64 e2, .float .f64 e3, .slice A cs.length cap] 25)).alloc (.cells #[.int .u32 au, .int .u32 ad, .int .u32 su, .int .u32 sd, .bool bad, .bool full, .int .i64 st, .slice A' ys.length cp] 46) := ⟨_, rfl⟩
    rw [← hW0]
    have hs0 : W0.heap.size = w.heap.size + 2 := by rw [hW0]; simp
    have HBW : Hid (Below w.heap.size w W0) := by rw [hW0]; exact ((Below.refl _ _).alloc (Nat.le_refl _) _).alloc (by simp) _
    have HB : Hid (∀ wx, Below W0.heap.size W0 wx → wx.cell? ⟨w.heap.size, 0, none⟩ = some (.int .i64 f) ∧ wx.cell? ⟨w.heap.size, 1, none⟩ = some (.int .i64 d) ∧ wx.cell? ⟨w.heap.size, 2, none⟩ = some (.int .i64 r) ∧ wx.cell? ⟨w.heap.size, 3, none⟩ = some (.int .i64 p) ∧ wx.cell? ⟨w.heap.size, 4, none⟩ = some (.float .f64 e1) ∧ wx.cell? ⟨w.heap.size, 5, none⟩ = some (.float .f64 e2) ∧ wx.cell? ⟨w.heap.size, 6, none⟩ = some (.float .f64 e3) ∧ wx.cell? ⟨w.heap.size, 7, none⟩ = some (.slice A cs.length cap) ∧ wx.cell? ⟨w.heap.size + 1, 0, none⟩ = some (.int .u32 au) ∧ wx.cell? ⟨w.heap.size + 1, 1, none⟩ = some (.int .u32 ad) ∧ wx.cell? ⟨w.heap.size + 1, 2, none⟩ = some (.int .u32 su) ∧ wx.cell? ⟨w.heap.size + 1, 3, none⟩ = some (.int .u32 sd) ∧ wx.cell? ⟨w.heap.size + 1, 4, none⟩ = some (.bool bad) ∧ wx.cell? ⟨w.heap.size + 1, 5, none⟩ = some (.bool full) ∧ wx.cell? ⟨w.heap.size + 1, 6, none⟩ = some (.int .i64 st) ∧ wx.cell? ⟨w.heap.size + 1, 7, none⟩ = some (.slice A' ys.length cp)) := fun wx h => by
      have r0 : wx.heap[w.heap.size]? = some (.cells #[.int .i64 f, .int .i64 d, .int .i64 r, .int .i64 p, .float .f64 e1, .float .f64 e2, .float .f64 e3, .slice A cs.length cap] 25 (0, 0)) := (h.block _ (by omega)).trans (by rw [hW0]; exact (Below.heap_alloc _ _ _ (by simp)).trans (heap_alloc_new w _))
      have r1 : wx.heap[w.heap.size + 1]? = some (.cells #[.int .u32 au, .int .u32 ad, .int .u32 su, .int .u32 sd, .bool bad, .bool full, .int .i64 st, .slice A' ys.length cp] 46 (0, 0)) := (h.block _ (by omega)).trans (by
        rw [hW0]
        have h := heap_alloc_new (w.alloc (.cells #[.int .i64 f, .int .i64 d, .int .i64 r, .int .i64 p, .float .f64 e1, .float .f64 e2, .float .f64 e3, .slice A cs.length cap] 25)) (.cells #[.int .u32 au, .int .u32 ad, .int .u32 su, .int .u32 sd, .bool bad, .bool full, .int .i64 st, .slice A' ys.length cp] 46)
        have e : (w.alloc (.cells #[.int .i64 f, .int .i64 d, .int .i64 r, .int .i64 p, .float .f64 e1, .float .f64 e2, .float .f64 e3, .slice A cs.length cap] 25)).heap.size = w.heap.size + 1 := by simp
        rw [e] at h
        exact h)
      exact ⟨cell_of_row _ _ _ _ _ (0, 0) r0, cell_of_row _ _ _ _ _ (0, 0) r0, cell_of_row _ _ _ _ _ (0, 0) r0, cell_of_row _ _ _ _ _ (0, 0) r0, cell_of_row _ _ _ _ _ (0, 0) r0, cell_of_row _ _ _ _ _ (0, 0) r0, cell_of_row _ _ _ _ _ (0, 0) r0, cell_of_row _ _ _ _ _ (0, 0) r0, cell_of_row _ _ _ _ _ (0, 0) r1, cell_of_row _ _ _ _ _ (0, 0) r1, cell_of_row _ _ _ _ _ (0, 0) r1, cell_of_row _ _ _ _ _ (0, 0) r1, cell_of_row _ _ _ _ _ (0, 0) r1, cell_of_row _ _ _ _ _ (0, 0) r1, cell_of_row _ _ _ _ _ (0, 0) r1, cell_of_row _ _ _ _ _ (0, 0) r1⟩
    clear hW0
    refine (F1.out W0 HBW.out).mono ?_
    rintro e w1 ⟨rfl, hb1⟩
    obtain ⟨a0, a1, a2, a3, a4, a5, a6, a7, a8, a9, a10, a11, a12, a13, a14, a15⟩ := HB.out w1 hb1
    have HX := Lib.hid hb1
    clear hb1
    go_wp2_with fail
    clear a0 a1 a2 a3 a4 a5 a6 a7 a8 a9 a10 a11 a12 a13 a14 a15
    refine (FW.out au ad w1 (HBW.out.trans (HX.out.mono (by omega))) hau had).mono ?_
    rintro e w2 ⟨rfl, hb2⟩
    rw [qa]
    have hx2 := HX.out.trans (hb2.mono HX.out.size)
    obtain ⟨a0, a1, a2, a3, a4, a5, a6, a7, a8, a9, a10, a11, a12, a13, a14, a15⟩ := HB.out w2 hx2
    have HX := Lib.hid hx2
    clear hb2 hx2
    go_wp2_with fail
    clear a0 a1 a2 a3 a4 a5 a6 a7 a8 a9 a10 a11 a12 a13 a14 a15
    refine (FW.out su sd w2 (HBW.out.trans (HX.out.mono (by omega))) hsu hsd).mono ?_
    rintro e w3 ⟨rfl, hb2⟩
    rw [qb]
    have hx2 := HX.out.trans (hb2.mono HX.out.size)
    obtain ⟨a0, a1, a2, a3, a4, a5, a6, a7, a8, a9, a10, a11, a12, a13, a14, a15⟩ := HB.out w3 hx2
    have HX := Lib.hid hx2
    clear hb2 hx2
    go_wp2_with fail
    clear a0 a1 a2 a3 a4 a5 a6 a7 a8 a9 a10 a11 a12 a13 a14 a15
    refine (refBetween_any st 0 65535 _).mono ?_
    rintro e w4 ⟨rfl, rfl⟩
    rw [qc]
    obtain ⟨a0, a1, a2, a3, a4, a5, a6, a7, a8, a9, a10, a11, a12, a13, a14, a15⟩ := HB.out w4 HX.out
    go_wp2_with fail
    go_ret
    exact ⟨rfl, HBW.out.trans (HX.out.mono (by omega))⟩
  have hlb : ((ys.length : Int) != (cs.length : Int)) = false := bne_eq_false_iff_eq.2 hl
  have HL := Lib.hid (decide_eq_true hl)
  clear hl
  go_enter Try.func41, Try.ntmps41
  go_wp2_with fail
  obtain ⟨W0, hW0⟩ : ∃ W0, W0 = (w.alloc (.cells #[.int .i64 f, .int .i64 d, .int .i64 r, .int .i64 p, .float .f64 e1, .float .f64 e2, .float .f64 e3, .slice A cs.length cap] 25)).alloc (.cells #[.int .u32 au, .int .u32 ad, .int .u32 su, .int .u32 sd, .bool bad, .bool full, .int .i64 st, .slice A' ys.length cp] 46) := ⟨_, rfl⟩
  rw [← hW0]
  have hs0 : W0.heap.size = w.heap.size + 2 := by rw [hW0]; simp
  have HBW : Hid (Below w.heap.size w W0) := by rw [hW0]; exact ((Below.refl _ _).alloc (Nat.le_refl _) _).alloc (by simp) _
  have HB : Hid (∀ wx, Below W0.heap.size W0 wx → wx.cell? ⟨w.heap.size, 0, none⟩ = some (.int .i64 f) ∧ wx.cell? ⟨w.heap.size, 1, none⟩ = some (.int .i64 d) ∧ wx.cell? ⟨w.heap.size, 2, none⟩ = some (.int .i64 r) ∧ wx.cell? ⟨w.heap.size, 3, none⟩ = some (.int .i64 p) ∧ wx.cell? ⟨w.heap.size, 4, none⟩ = some (.float .f64 e1) ∧ wx.cell? ⟨w.heap.size, 5, none⟩ = some (.float .f64 e2) ∧ wx.cell? ⟨w.heap.size, 6, none⟩ = some (.float .f64 e3) ∧ wx.cell? ⟨w.heap.size, 7, none⟩ = some (.slice A cs.length cap) ∧ wx.cell? ⟨w.heap.size + 1, 0, none⟩ = some (.int .u32 au) ∧ wx.cell? ⟨w.heap.size + 1, 1, none⟩ = some (.int .u32 ad) ∧ wx.cell? ⟨w.heap.size + 1, 2, none⟩ = some (.int .u32 su) ∧ wx.cell? ⟨w.heap.size + 1, 3, none⟩ = some (.int .u32 sd) ∧ wx.cell? ⟨w.heap.size + 1, 4, none⟩ = some (.bool bad) ∧ wx.cell? ⟨w.heap.size + 1, 5, none⟩ = some (.bool full) ∧ wx.cell? ⟨w.heap.size + 1, 6, none⟩ = some (.int .i64 st) ∧ wx.cell? ⟨w.heap.size + 1, 7, none⟩ = some (.slice A' ys.length cp)) := fun wx h => by
    have r0 : wx.heap[w.heap.size]? = some (.cells #[.int .i64 f, .int .i64 d, .int .i64 r, .int .i64 p, .float .f64 e1, .float .f64 e2, .float .f64 e3, .slice A cs.length cap] 25 (0, 0)) := (h.block _ (by omega)).trans (by rw [hW0]; exact (Below.heap_alloc _ _ _ (by simp)).trans (heap_alloc_new w _))
    have r1 : wx.heap[w.heap.size + 1]? = some (.cells #[.int .u32 au, .int .u32 ad, .int .u32 su, .int .u32 sd, .bool bad, .bool full, .int .i64 st, .slice A' ys.length cp] 46 (0, 0)) := (h.block _ (by omega)).trans (by
      rw [hW0]
      have h := heap_alloc_new (w.alloc (.cells #[.int .i64 f, .int .i64 d, .int .i64 r, .int .i64 p, .float .f64 e1, .float .f64 e2, .float .f64 e3, .slice A cs.length cap] 25)) (.cells #[.int .u32 au, .int .u32 ad, .int .u32 su, .int .u32 sd, .bool bad, .bool full, .int .i64 st, .slice A' ys.length cp] 46)
      have e : (w.alloc (.cells #[.int .i64 f, .int .i64 d, .int .i64 r, .int .i64 p, .float .f64 e1, .float .f64 e2, .float .f64 e3, .slice A cs.length cap] 25)).heap.size = w.heap.size + 1 := by simp
      rw [e] at h
      exact h)
    exact ⟨cell_of_row _ _ _ _ _ (0, 0) r0, cell_of_row _ _ _ _ _ (0, 0) r0, cell_of_row _ _ _ _ _ (0, 0) r0, cell_of_row _ _ _ _ _ (0, 0) r0, cell_of_row _ _ _ _ _ (0, 0) r0, cell_of_row _ _ _ _ _ (0, 0) r0, cell_of_row _ _ _ _ _ (0, 0) r0, cell_of_row _ _ _ _ _ (0, 0) r0, cell_of_row _ _ _ _ _ (0, 0) r1, cell_of_row _ _ _ _ _ (0, 0) r1, cell_of_row _ _ _ _ _ (0, 0) r1, cell_of_row _ _ _ _ _ (0, 0) r1, cell_of_row _ _ _ _ _ (0, 0) r1, cell_of_row _ _ _ _ _ (0, 0) r1, cell_of_row _ _ _ _ _ (0, 0) r1, cell_of_row _ _ _ _ _ (0, 0) r1⟩
  clear hW0
  refine (F1.out W0 HBW.out).mono ?_
  rintro e w1 ⟨rfl, hb1⟩
  obtain ⟨a0, a1, a2, a3, a4, a5, a6, a7, a8, a9, a10, a11, a12, a13, a14, a15⟩ := HB.out w1 hb1
  have HX := Lib.hid hb1
  clear hb1
  go_wp2_with fail
  clear a0 a1 a2 a3 a4 a5 a6 a7 a8 a9 a10 a11 a12 a13 a14 a15
  refine (FW.out au ad w1 (HBW.out.trans (HX.out.mono (by omega))) hau had).mono ?_
  rintro e w2 ⟨rfl, hb2⟩
  rw [qa]
  have hx2 := HX.out.trans (hb2.mono HX.out.size)
  obtain ⟨a0, a1, a2, a3, a4, a5, a6, a7, a8, a9, a10, a11, a12, a13, a14, a15⟩ := HB.out w2 hx2
  have HX := Lib.hid hx2
  clear hb2 hx2
  go_wp2_with fail
  clear a0 a1 a2 a3 a4 a5 a6 a7 a8 a9 a10 a11 a12 a13 a14 a15
  refine (FW.out su sd w2 (HBW.out.trans (HX.out.mono (by omega))) hsu hsd).mono ?_
  rintro e w3 ⟨rfl, hb2⟩
  rw [qb]
  have hx2 := HX.out.trans (hb2.mono HX.out.size)
  obtain ⟨a0, a1, a2, a3, a4, a5, a6, a7, a8, a9, a10, a11, a12, a13, a14, a15⟩ := HB.out w3 hx2
  have HX := Lib.hid hx2
  clear hb2 hx2
  go_wp2_with fail
  clear a0 a1 a2 a3 a4 a5 a6 a7 a8 a9 a10 a11 a12 a13 a14 a15
  refine (refBetween_any st 0 65535 _).mono ?_
  rintro e w4 ⟨rfl, rfl⟩
  rw [qc]
  obtain ⟨a0, a1, a2, a3, a4, a5, a6, a7, a8, a9, a10, a11, a12, a13, a14, a15⟩ := HB.out w4 HX.out
  go_wp2_with fail
  clear a0 a1 a2 a3 a4 a5 a6 a7 a8 a9 a10 a11 a12 a13 a14 a15
  go_loopw [5] (fun v wr => ∃ m : Nat, m ≤ ys.length ∧ v = .int .i64 m ∧ (ys.take m).all CI = true ∧ Below W0.heap.size W0 wr) (fun v _ => ys.length - (intOf v).toNat)
  case atStart => exact ⟨0, Nat.zero_le _, rfl, rfl, HX.out⟩
  case round =>
    obtain ⟨m, hm, rfl, hall, hbr⟩ := hrel
    have hs0r : W0.heap.size ≤ wr.heap.size := hbr.size
    obtain ⟨a0, a1, a2, a3, a4, a5, a6, a7, a8, a9, a10, a11, a12, a13, a14, a15⟩ := HB.out wr hbr
    have HBR := Lib.hid hbr
    have HALL := Lib.hid hall
    clear hbr hall
    rcases Nat.lt_or_ge m ys.length with hlt | hge
    case inr =>
      obtain rfl : m = ys.length := by omega
      go_wp2_with fail
      go_ret
      have hall := HALL.out
      rw [List.take_length] at hall
      have hR : R = true := by rw [HIS.out, hall, HL.out]; rfl
      exact ⟨by subst hR; rfl, HBW.out.trans (HBR.out.mono (by omega))⟩
    have hbwr := HBW.out.trans (HBR.out.mono (by omega))
    rcases HV.out.below hbwr with h0 | ⟨b, off, rfl, hv⟩
    · subst h0; simp at hlt
    have g := hv m hlt
    have hsc := HSC.out ys[m] (List.getElem_mem hlt)
    have HNO : Hid (CI ys[m] = false → ys.all CI = false) := HNOX.out m hlt
    have HYES : Hid (CI ys[m] = true → (ys.take (m + 1)).all CI = true) := fun h => HYESX.out m hlt h HALL.out
    clear hbwr hv
    generalize ys[m] = c at g hsc HNO HYES
    have g0 : wr.cell? ⟨b, off + m * 9, none⟩ = some (.int .u32 c.iu) := g 0 _ rfl
    have g1 : wr.cell? ⟨b, off + m * 9 + 1, none⟩ = some (.int .u32 c.id) := g 1 _ rfl
    have g2 : wr.cell? ⟨b, off + m * 9 + 2, none⟩ = some (.bool c.cut) := g 2 _ rfl
    have g3 : wr.cell? ⟨b, off + m * 9 + 3, none⟩ = some (.int .u32 c.lu) := g 3 _ rfl
    have g4 : wr.cell? ⟨b, off + m * 9 + 4, none⟩ = some (.int .u32 c.ld) := g 4 _ rfl
    have g5 : wr.cell? ⟨b, off + m * 9 + 5, none⟩ = some (.bool c.gong) := g 5 _ rfl
    have g6 : wr.cell? ⟨b, off + m * 9 + 6, none⟩ = some (.int .i64 c.cmd) := g 6 _ rfl
    have g7 : wr.cell? ⟨b, off + m * 9 + 7, none⟩ = some (.int .i64 c.ph) := g 7 _ rfl
    have g8 : wr.cell? ⟨b, off + m * 9 + 8, none⟩ = some (.bool c.flag) := g 8 _ rfl
    have hbl : b < wr.heap.size := World.block_lt_of_cell? wr _ g0
    clear g
    have hpast : ∀ o j, (wr.alloc o).cell? ⟨w.heap.size, j, none⟩ = wr.cell? ⟨w.heap.size, j, none⟩ := fun o j => World.cell?_of_block (w := wr) (Below.heap_alloc wr o w.heap.size (by omega))
    have p0 := fun o => (hpast o 0).trans a0
    have p1 := fun o => (hpast o 1).trans a1
    have p2 := fun o => (hpast o 2).trans a2
    have p3 := fun o => (hpast o 3).trans a3
    have p4 := fun o => (hpast o 4).trans a4
    have p5 := fun o => (hpast o 5).trans a5
    have p6 := fun o => (hpast o 6).trans a6
    have p7 := fun o => (hpast o 7).trans a7
    clear hpast
    go_wp2_with fail
    obtain ⟨W1, hW1⟩ : ∃ W1, W1 = wr.alloc (.cells #[.int .u32 c.iu, .int .u32 c.id, .bool c.cut, .int .u32 c.lu, .int .u32 c.ld, .bool c.gong, .int .i64 c.cmd, .int .i64 c.ph, .bool c.flag] 93) := ⟨_, rfl⟩
    rw [← hW1]
    have hs1 : W1.heap.size = wr.heap.size + 1 := by rw [hW1]; simp
    have HB1B : Hid (Below W0.heap.size W0 W1) := by rw [hW1]; exact HBR.out.alloc hs0r _
    have HB1 : Hid (∀ wx, Below W1.heap.size W1 wx → wx.cell? ⟨w.heap.size, 0, none⟩ = some (.int .i64 f) ∧ wx.cell? ⟨w.heap.size, 1, none⟩ = some (.int .i64 d) ∧ wx.cell? ⟨w.heap.size, 2, none⟩ = some (.int .i64 r) ∧ wx.cell? ⟨w.heap.size, 3, none⟩ = some (.int .i64 p) ∧ wx.cell? ⟨w.heap.size, 4, none⟩ = some (.float .f64 e1) ∧ wx.cell? ⟨w.heap.size, 5, none⟩ = some (.float .f64 e2) ∧ wx.cell? ⟨w.heap.size, 6, none⟩ = some (.float .f64 e3) ∧ wx.cell? ⟨w.heap.size, 7, none⟩ = some (.slice A cs.length cap) ∧ wx.cell? ⟨wr.heap.size, 0, none⟩ = some (.int .u32 c.iu) ∧ wx.cell? ⟨wr.heap.size, 1, none⟩ = some (.int .u32 c.id) ∧ wx.cell? ⟨wr.heap.size, 2, none⟩ = some (.bool c.cut) ∧ wx.cell? ⟨wr.heap.size, 3, none⟩ = some (.int .u32 c.lu) ∧ wx.cell? ⟨wr.heap.size, 4, none⟩ = some (.int .u32 c.ld) ∧ wx.cell? ⟨wr.heap.size, 5, none⟩ = some (.bool c.gong) ∧ wx.cell? ⟨wr.heap.size, 6, none⟩ = some (.int .i64 c.cmd) ∧ wx.cell? ⟨wr.heap.size, 7, none⟩ = some (.int .i64 c.ph) ∧ wx.cell? ⟨wr.heap.size, 8, none⟩ = some (.bool c.flag)) := fun wx h => by
      obtain ⟨a0, a1, a2, a3, a4, a5, a6, a7, -⟩ := HB.out wx (HB1B.out.trans (h.mono (by omega)))
      have r1 : wx.heap[wr.heap.size]? = some (.cells #[.int .u32 c.iu, .int .u32 c.id, .bool c.cut, .int .u32 c.lu, .int .u32 c.ld, .bool c.gong, .int .i64 c.cmd, .int .i64 c.ph, .bool c.flag] 93 (0, 0)) := (h.block _ (by omega)).trans (by rw [hW1]; exact heap_alloc_new wr _)
      exact ⟨a0, a1, a2, a3, a4, a5, a6, a7, cell_of_row _ _ _ _ _ (0, 0) r1, cell_of_row _ _ _ _ _ (0, 0) r1, cell_of_row _ _ _ _ _ (0, 0) r1, cell_of_row _ _ _ _ _ (0, 0) r1, cell_of_row _ _ _ _ _ (0, 0) r1, cell_of_row _ _ _ _ _ (0, 0) r1, cell_of_row _ _ _ _ _ (0, 0) r1, cell_of_row _ _ _ _ _ (0, 0) r1, cell_of_row _ _ _ _ _ (0, 0) r1⟩
    clear hW1 p0 p1 p2 p3 p4 p5 p6 p7 a0 a1 a2 a3 a4 a5 a6 a7 a8 a9 a10 a11 a12 a13 a14 a15 g0 g1 g2 g3 g4 g5 g6 g7 g8
    cases q1 : (setB c.iu U && setB c.id D)
    case false =>
      refine (FW.out c.iu c.id W1 (HBW.out.trans ((HB1B.out).mono (by have := HB1B.out.size; omega))) hsc.1.1 hsc.1.2).mono ?_
      rintro e w5 ⟨rfl, hb5⟩
      rw [q1]
      have hx5 := hb5
      obtain ⟨a0, a1, a2, a3, a4, a5, a6, a7, c0, c1, c2, c3, c4, c5, c6, c7, c8⟩ := HB1.out w5 hx5
      have HX5 := Lib.hid hx5
      clear hb5 hx5
      go_wp2_with fail
      go_ret
      have hR : R = false := by rw [HIS.out, HNO.out (by rw [HCI.out, q1]; rfl), Bool.and_false]
      exact ⟨by subst hR; rfl, HBW.out.trans ((HB1B.out.trans (HX5.out.mono (by have := HB1B.out.size; omega))).mono (by omega))⟩
    cases q2 : (setB c.lu U && setB c.ld D)
    case false =>
      refine (FW.out c.iu c.id W1 (HBW.out.trans ((HB1B.out).mono (by have := HB1B.out.size; omega))) hsc.1.1 hsc.1.2).mono ?_
      rintro e w5 ⟨rfl, hb5⟩
      rw [q1]
      have hx5 := hb5
      obtain ⟨a0, a1, a2, a3, a4, a5, a6, a7, c0, c1, c2, c3, c4, c5, c6, c7, c8⟩ := HB1.out w5 hx5
      have HX5 := Lib.hid hx5
      clear hb5 hx5
      go_wp2_with fail
      clear a0 a1 a2 a3 a4 a5 a6 a7 c0 c1 c2 c3 c4 c5 c6 c7 c8
      refine (FW.out c.lu c.ld w5 (HBW.out.trans ((HB1B.out.trans (HX5.out.mono (by have := HB1B.out.size; omega))).mono (by have := HB1B.out.size; omega))) hsc.2.1.1 hsc.2.1.2).mono ?_
      rintro e w6 ⟨rfl, hb5⟩
      rw [q2]
      have hx5 := HX5.out.trans (hb5.mono HX5.out.size)
      obtain ⟨a0, a1, a2, a3, a4, a5, a6, a7, c0, c1, c2, c3, c4, c5, c6, c7, c8⟩ := HB1.out w6 hx5
      have HX5 := Lib.hid hx5
      clear hb5 hx5
      go_wp2_with fail
      go_ret
      have hR : R = false := by rw [HIS.out, HNO.out (by rw [HCI.out, q1, q2]; rfl), Bool.and_false]
      exact ⟨by subst hR; rfl, HBW.out.trans ((HB1B.out.trans (HX5.out.mono (by have := HB1B.out.size; omega))).mono (by omega))⟩
    cases q3 : inB 0 5 c.cmd
    case false =>
      refine (FW.out c.iu c.id W1 (HBW.out.trans ((HB1B.out).mono (by have := HB1B.out.size; omega))) hsc.1.1 hsc.1.2).mono ?_
      rintro e w5 ⟨rfl, hb5⟩
      rw [q1]
      have hx5 := hb5
      obtain ⟨a0, a1, a2, a3, a4, a5, a6, a7, c0, c1, c2, c3, c4, c5, c6, c7, c8⟩ := HB1.out w5 hx5
      have HX5 := Lib.hid hx5
      clear hb5 hx5
      go_wp2_with fail
      clear a0 a1 a2 a3 a4 a5 a6 a7 c0 c1 c2 c3 c4 c5 c6 c7 c8
      refine (FW.out c.lu c.ld w5 (HBW.out.trans ((HB1B.out.trans (HX5.out.mono (by have := HB1B.out.size; omega))).mono (by have := HB1B.out.size; omega))) hsc.2.1.1 hsc.2.1.2).mono ?_
      rintro e w6 ⟨rfl, hb5⟩
      rw [q2]
      have hx5 := HX5.out.trans (hb5.mono HX5.out.size)
      obtain ⟨a0, a1, a2, a3, a4, a5, a6, a7, c0, c1, c2, c3, c4, c5, c6, c7, c8⟩ := HB1.out w6 hx5
      have HX5 := Lib.hid hx5
      clear hb5 hx5
      go_wp2_with fail
      clear a0 a1 a2 a3 a4 a5 a6 a7 c0 c1 c2 c3 c4 c5 c6 c7 c8
      refine (refBetween_any c.cmd 0 5 _).mono ?_
      rintro e w7 ⟨rfl, rfl⟩
      rw [q3]
      obtain ⟨a0, a1, a2, a3, a4, a5, a6, a7, c0, c1, c2, c3, c4, c5, c6, c7, c8⟩ := HB1.out w7 HX5.out
      go_wp2_with fail
      go_ret
      have hR : R = false := by rw [HIS.out, HNO.out (by rw [HCI.out, q1, q2, q3]; rfl), Bool.and_false]
      exact ⟨by subst hR; rfl, HBW.out.trans ((HB1B.out.trans (HX5.out.mono (by have := HB1B.out.size; omega))).mono (by omega))⟩
    cases q4 : inB 0 4 c.ph
    case false =>
      refine (FW.out c.iu c.id W1 (HBW.out.trans ((HB1B.out).mono (by have := HB1B.out.size; omega))) hsc.1.1 hsc.1.2).mono ?_
      rintro e w5 ⟨rfl, hb5⟩
      rw [q1]
      have hx5 := hb5
      obtain ⟨a0, a1, a2, a3, a4, a5, a6, a7, c0, c1, c2, c3, c4, c5, c6, c7, c8⟩ := HB1.out w5 hx5
      have HX5 := Lib.hid hx5
      clear hb5 hx5
      go_wp2_with fail
      clear a0 a1 a2 a3 a4 a5 a6 a7 c0 c1 c2 c3 c4 c5 c6 c7 c8
      refine (FW.out c.lu c.ld w5 (HBW.out.trans ((HB1B.out.trans (HX5.out.mono (by have := HB1B.out.size; omega))).mono (by have := HB1B.out.size; omega))) hsc.2.1.1 hsc.2.1.2).mono ?_
      rintro e w6 ⟨rfl, hb5⟩
      rw [q2]
      have hx5 := HX5.out.trans (hb5.mono HX5.out.size)
      obtain ⟨a0, a1, a2, a3, a4, a5, a6, a7, c0, c1, c2, c3, c4, c5, c6, c7, c8⟩ := HB1.out w6 hx5
      have HX5 := Lib.hid hx5
      clear hb5 hx5
      go_wp2_with fail
      clear a0 a1 a2 a3 a4 a5 a6 a7 c0 c1 c2 c3 c4 c5 c6 c7 c8
      refine (refBetween_any c.cmd 0 5 _).mono ?_
      rintro e w7 ⟨rfl, rfl⟩
      rw [q3]
      obtain ⟨a0, a1, a2, a3, a4, a5, a6, a7, c0, c1, c2, c3, c4, c5, c6, c7, c8⟩ := HB1.out w7 HX5.out
      go_wp2_with fail
      clear a0 a1 a2 a3 a4 a5 a6 a7 c0 c1 c2 c3 c4 c5 c6 c7 c8
      refine (refBetween_any c.ph 0 4 _).mono ?_
      rintro e w8 ⟨rfl, rfl⟩
      rw [q4]
      obtain ⟨a0, a1, a2, a3, a4, a5, a6, a7, c0, c1, c2, c3, c4, c5, c6, c7, c8⟩ := HB1.out w8 HX5.out
      go_wp2_with fail
      go_ret
      have hR : R = false := by rw [HIS.out, HNO.out (by rw [HCI.out, q1, q2, q3, q4]; rfl), Bool.and_false]
      exact ⟨by subst hR; rfl, HBW.out.trans ((HB1B.out.trans (HX5.out.mono (by have := HB1B.out.size; omega))).mono (by omega))⟩
    refine (FW.out c.iu c.id W1 (HBW.out.trans ((HB1B.out).mono (by have := HB1B.out.size; omega))) hsc.1.1 hsc.1.2).mono ?_
    rintro e w5 ⟨rfl, hb5⟩
    rw [q1]
    have hx5 := hb5
    obtain ⟨a0, a1, a2, a3, a4, a5, a6, a7, c0, c1, c2, c3, c4, c5, c6, c7, c8⟩ := HB1.out w5 hx5
    have HX5 := Lib.hid hx5
    clear hb5 hx5
    go_wp2_with fail
    clear a0 a1 a2 a3 a4 a5 a6 a7 c0 c1 c2 c3 c4 c5 c6 c7 c8
    refine (FW.out c.lu c.ld w5 (HBW.out.trans ((HB1B.out.trans (HX5.out.mono (by have := HB1B.out.size; omega))).mono (by have := HB1B.out.size; omega))) hsc.2.1.1 hsc.2.1.2).mono ?_
    rintro e w6 ⟨rfl, hb5⟩
    rw [q2]
    have hx5 := HX5.out.trans (hb5.mono HX5.out.size)
    obtain ⟨a0, a1, a2, a3, a4, a5, a6, a7, c0, c1, c2, c3, c4, c5, c6, c7, c8⟩ := HB1.out w6 hx5
    have HX5 := Lib.hid hx5
    clear hb5 hx5
    go_wp2_with fail
    clear a0 a1 a2 a3 a4 a5 a6 a7 c0 c1 c2 c3 c4 c5 c6 c7 c8
    refine (refBetween_any c.cmd 0 5 _).mono ?_
    rintro e w7 ⟨rfl, rfl⟩
    rw [q3]
    obtain ⟨a0, a1, a2, a3, a4, a5, a6, a7, c0, c1, c2, c3, c4, c5, c6, c7, c8⟩ := HB1.out w7 HX5.out
    go_wp2_with fail
    clear a0 a1 a2 a3 a4 a5 a6 a7 c0 c1 c2 c3 c4 c5 c6 c7 c8
    refine (refBetween_any c.ph 0 4 _).mono ?_
    rintro e w8 ⟨rfl, rfl⟩
    rw [q4]
    obtain ⟨a0, a1, a2, a3, a4, a5, a6, a7, c0, c1, c2, c3, c4, c5, c6, c7, c8⟩ := HB1.out w8 HX5.out
    go_wp2_with fail
    go_roundw
    case rel => exact ⟨m + 1, by omega, by go_num, HYES.out (by rw [HCI.out, q1, q2, q3, q4]; rfl), HB1B.out.trans (HX5.out.mono (by have := HB1B.out.size; omega))⟩
    case measure => simp [intOf]; omega

theorem coIs_iff (x : BldD) (c : CarOut) : coIs x c = true ↔ okCo c (hallUp x) (hallDown x) := by
  simp [coIs, okCo, and_assoc]
theorem ohIs_iff (x : BldD) (h : OutH) : ohIs x h = true ↔ okOh h (hallUp x) (hallDown x) := by
  simp [ohIs, okOh, and_assoc]
theorem ouOk_of {t : List UInt8} {y : Ou} {u d C : Nat} (h1 : y.cars.length = C) (h2 : okOh y.h u d) (h3 : ∀ c ∈ y.cars, okCo c u d) : Kind.ouOk .wr t y u d C :=
  ⟨h1, ⟨h2.1, h2.2.1, flg_lt y.h.flags, h2.2.2⟩, fun i h => ⟨(h3 _ (List.getElem_mem h)).1, (h3 _ (List.getElem_mem h)).2.1, flg_lt (y.cars[i]).flags, (h3 _ (List.getElem_mem h)).2.2.1, (h3 _ (List.getElem_mem h)).2.2.2⟩⟩
theorem isOut_iff (x : BldD) (y : Ou) (hv : validE x = 0) : isOutB x y = true ↔ ouOk x y := by
  unfold isOutB
  rw [Bool.and_eq_true, Bool.and_eq_true, ohIs_iff, decide_eq_true_iff, List.all_eq_true]
  constructor
  · rintro ⟨⟨h1, h2⟩, h3⟩
    exact ⟨hv, ouOk_of (by omega) h1 (fun c hc => (coIs_iff x c).1 (h3 c hc))⟩
  · rintro ⟨-, ok⟩
    obtain ⟨h1, h2, h3⟩ := ouOk_wr ok
    exact ⟨⟨h2, by omega⟩, fun c hc => (coIs_iff x c).2 (h3 c hc)⟩
end

section
namespace Ghost
open Go Go.RowKit Go.Proofs.Ytapkjknpoafhjaa.Bag

abbrev Gh := Nat → Nat
abbrev Run := Nat → Bool
def upd (γ : Gh) (i b : Nat) : Gh := fun j => if j = i then b else γ j
def mark (L : Run) (i : Nat) : Run := fun j => if j = i then true else L j

section
variable {P : Program} {ops : Array Oper} {I : Gh → Run → World → Prop}

/-- One operation, number i, whose value is 'val' of its ghost. -/
def Step (P : Program) (ops : Array Oper) (I : Gh → Run → World → Prop) (i : Nat) (o : Oper) (A : Gh → Act) (val : Nat → Value) : Prop :=
  ((∀ γ, Region.wanted o (yielded ops (A γ).tmps) = false) ∧ (∀ b, val b = undef) ∧ ∀ γ L w, I γ L w → I γ (mark L i) w) ∨
  ((∀ γ, Region.wanted o (yielded ops (A γ).tmps) = true) ∧
    ∀ γ (L : Run) w, L i = false → (∀ j, Region.waitsFor .any ops i j = true → L j = true) → I γ L w → o.wp P (A γ) w (fun a' w' => ∃ b, a' = (A γ).put o.dst (val b) ∧ I (upd γ i b) (mark L i) w') NoEnd)

def walk (P : Program) (ops : Array Oper) (I : Gh → Run → World → Prop) (Q : (Gh → Act) → Prop) : Nat → List Oper → (Gh → Act) → Prop
  | _, [], A => Q A
  | i, o :: rest, A => ∃ val : Nat → Value, Step P ops I i o A val ∧ walk P ops I Q (i + 1) rest (fun γ => (A γ).put o.dst (val (γ i)))

theorem walk_acts {Q : (Gh → Act) → Prop} : ∀ (l : List Oper) (i : Nat) (A : Gh → Act), walk P ops I Q i l A → ∃ (Af : Nat → Gh → Act) (val : Nat → Nat → Value), Af 0 = A ∧
    (∀ k o, l[k]? = some o → Step P ops I (i + k) o (Af k) (val k) ∧ ∀ γ, Af (k + 1) γ = (Af k γ).put o.dst (val k (γ (i + k)))) ∧ Q (Af l.length)
  | [], _, A, h => ⟨fun _ => A, fun _ _ => undef, rfl, fun k o hk => by simp at hk, h⟩
  | o :: rest, i, A, ⟨v, hs, h⟩ => by
    obtain ⟨Af, val, h0, hst, hQ⟩ := walk_acts rest (i + 1) _ h
    refine ⟨fun n => match n with | 0 => A | n + 1 => Af n, fun n => match n with | 0 => v | n + 1 => val n, rfl, fun k ok hk => ?_, hQ⟩
    cases k with
    | zero =>
      simp only [List.getElem?_cons_zero, Option.some.injEq] at hk
      subst hk
      exact ⟨hs, fun γ => by show Af 0 γ = _; rw [h0]; rfl⟩
    | succ k =>
      have := hst k ok (by simpa using hk)
      rw [show i + 1 + k = i + (k + 1) from by omega] at this
      exact this

structure Seq (ops : Array Oper) (Af : Nat → Gh → Act) (val : Nat → Nat → Value) (a0 : Act) : Prop where
  zero : ∀ γ, Af 0 γ = a0
  put : ∀ k o, ops[k]? = some o → ∀ γ, Af (k + 1) γ = (Af k γ).put o.dst (val k (γ k))

variable {Af : Nat → Gh → Act} {val : Nat → Nat → Value} {a0 : Act}

theorem Seq.size (h : Seq ops Af val a0) (γ : Gh) : ∀ k, k ≤ ops.size → (Af k γ).tmps.size = a0.tmps.size ∧ (Af k γ).defers = a0.defers
  | 0, _ => by rw [h.zero]; exact ⟨rfl, rfl⟩
  | k + 1, hk => by
    rw [h.put k _ (Array.getElem?_eq_getElem (by omega : k < ops.size)) γ, put_size, put_defers']
    exact h.size γ k (by omega)
theorem Seq.keeps (h : Seq ops Af val a0) (γ : Gh) {s : Tmp} (k : Nat) : ∀ m, k ≤ m → m ≤ ops.size → (∀ j oj, k ≤ j → j < m → ops[j]? = some oj → oj.dst ≠ some s) → (Af m γ).tmps[s]? = (Af k γ).tmps[s]?
  | 0, hm, _, _ => by have : k = 0 := by omega
                      subst this; rfl
  | m + 1, hm, hs, hw => by
    rcases Nat.lt_or_ge m k with hlt | hge
    · have : k = m + 1 := by omega
      subst this; rfl
    · have hmm : m < ops.size := by omega
      have hom := Array.getElem?_eq_getElem hmm
      have ih := h.keeps γ k m hge (by omega) (fun j oj h1 h2 h3 => hw j oj h1 (by omega) h3)
      rw [h.put m _ hom γ, ← ih]
      have hne := hw m _ hge (by omega) hom
      cases hd : ops[m].dst with
      | none => rfl
      | some d => rw [put_get, if_neg (fun e => hne (by rw [hd, e]))]
/-- What stands in a slot behind its operation. -/
theorem Seq.at_ (h : Seq ops Af val a0) (hok : Ok ops) (γ : Gh) {j : Nat} {oj : Oper} {s : Tmp} (hj : ops[j]? = some oj) (hd : oj.dst = some s) {m : Nat} (hm : j < m) (hs : m ≤ ops.size) : (Af m γ).tmps[s]? = if s < a0.tmps.size then some (val j (γ j)) else none := by
  rw [h.keeps γ (j + 1) m (by omega) hs (fun k ok h1 h2 hk hdk => by have := hok.one k ok j oj s hk hj hdk hd; omega), h.put j oj hj γ, hd, put_get, if_pos rfl, (h.size γ j (by omega)).1]

structure Inv (ops : Array Oper) (val : Nat → Nat → Value) (a0 : Act) (γ : Gh) (listed : Array Bool) (a : Act) : Prop where
  size : listed.size = ops.size
  closed : ∀ j oj, ops[j]? = some oj → listed.getD j false = true → ∀ e ∈ oj.after, Region.binds .any e = true → listed.getD e.on false = true
  tsize : a.tmps.size = a0.tmps.size
  defers : a.defers = a0.defers
  done : ∀ j oj s, ops[j]? = some oj → oj.dst = some s → listed.getD j false = true → a.tmps[s]? = if s < a0.tmps.size then some (val j (γ j)) else none
  rest : ∀ s, (∀ j oj, ops[j]? = some oj → listed.getD j false = true → oj.dst ≠ some s) → a.tmps[s]? = a0.tmps[s]?

theorem agree (hok : Ok ops) (hseq : Seq ops Af val a0) {γ : Gh} {listed : Array Bool} {a : Act} (inv : Inv ops val a0 γ listed a) {i : Nat} {oi : Oper} (hi : ops[i]? = some oi) (hun : listed.getD i false = false)
    (hrd : ∀ e ∈ oi.after, Region.binds .any e = true → listed.getD e.on false = true) {s : Tmp} (hs : s ∈ oi.looksAt ops) : a.tmps[s]? = (Af i γ).tmps[s]? := by
  have hil := (Array.getElem?_eq_some_iff.1 hi).1
  by_cases hw : ∃ (j : Nat) (oj : Oper), ops[j]? = some oj ∧ oj.dst = some s
  · obtain ⟨j, oj, hj, hd⟩ := hw
    have hjl := (Array.getElem?_eq_some_iff.1 hj).1
    rcases hok.reads i oi j oj s hi hj hd hs with ⟨hlt, hwt⟩ | ⟨hlt, hwt⟩
    · obtain ⟨e, he, hb, hon⟩ := waits_spec hi hwt
      have hl := hrd e he hb
      rw [hon] at hl
      rw [inv.done j oj s hj hd hl, hseq.at_ hok γ hj hd hlt (by omega)]
    · have hjun : listed.getD j false = false := by
        cases hc : listed.getD j false with
        | false => rfl
        | true =>
          obtain ⟨e, he, hb, hon⟩ := waits_spec hj hwt
          have := inv.closed j oj hj hc e he hb
          rw [hon, hun] at this
          cases this
      rw [inv.rest s (fun k ok hk hl hdk => by
        have := hok.one k ok j oj s hk hj hdk hd
        subst this
        rw [hjun] at hl
        cases hl), hseq.keeps γ 0 i (by omega) (by omega) (fun k ok h1 h2 hk hdk => by have := hok.one k ok j oj s hk hj hdk hd; omega), hseq.zero]
  · have hno : ∀ (j : Nat) (oj : Oper), ops[j]? = some oj → oj.dst ≠ some s := fun j oj hj hd => hw ⟨j, oj, hj, hd⟩
    rw [inv.rest s (fun j oj hj _ => hno j oj hj), hseq.keeps γ 0 i (by omega) (by omega) (fun k ok _ _ hk => hno k ok hk), hseq.zero]

theorem inv_next (hok : Ok ops) (hseq : Seq ops Af val a0) {γ : Gh} {listed : Array Bool} {a : Act} (inv : Inv ops val a0 γ listed a) {i : Nat} {oi : Oper} (hi : ops[i]? = some oi)
    (hrd : ∀ e ∈ oi.after, Region.binds .any e = true → listed.getD e.on false = true) {v : Value} {b : Nat} (hv : (Af i γ).put oi.dst v = (Af i γ).put oi.dst (val i b)) : Inv ops val a0 (upd γ i b) (listed.setIfInBounds i true) (a.put oi.dst v) := by
  have hil := (Array.getElem?_eq_some_iff.1 hi).1
  have hset : (listed.setIfInBounds i true).getD i false = true := by simp [inv.size, hil]
  have hsz := hseq.size γ i (by omega)
  refine ⟨by simp [inv.size], fun j oj hj hl e he hb => ?_, by rw [put_size]; exact inv.tsize, by rw [put_defers']; exact inv.defers, fun j oj s hj hd hl => ?_, fun s hs => ?_⟩
  · by_cases hij : i = j
    · subst hij
      rw [hi] at hj
      obtain rfl := Option.some.inj hj
      exact getD_set_true (hrd e he hb)
    · rw [getD_set_ne false hij] at hl
      exact getD_set_true (inv.closed j oj hj hl e he hb)
  · by_cases hij : i = j
    · subst hij
      rw [hi] at hj
      obtain rfl := Option.some.inj hj
      have h1 : ((Af i γ).put oi.dst v).tmps[s]? = ((Af i γ).put oi.dst (val i b)).tmps[s]? := by rw [hv]
      rw [hd, put_get, put_get, if_pos rfl, if_pos rfl, hsz.1] at h1
      rw [hd, put_get, if_pos rfl, inv.tsize, h1]
      show _ = if s < a0.tmps.size then some (val i (upd γ i b i)) else none
      unfold upd
      rw [if_pos rfl]
    · rw [getD_set_ne false hij] at hl
      have h1 := inv.done j oj s hj hd hl
      have h2 : upd γ i b j = γ j := by unfold upd; rw [if_neg (fun e => hij e.symm)]
      rw [h2, ← h1]
      cases hdi : oi.dst with
      | none => rfl
      | some d =>
        rw [put_get, if_neg]
        intro e
        subst e
        exact hij (hok.one i oi j oj d hi hj hdi hd)
  · have hne : oi.dst ≠ some s := hs i oi hi hset
    have h2 : a.tmps[s]? = a0.tmps[s]? := inv.rest s (fun j oj hj hl => hs j oj hj (getD_set_true hl))
    rw [← h2]
    cases hdi : oi.dst with
    | none => rfl
    | some d => rw [put_get, if_neg (fun e => hne (by rw [hdi, e]))]

/-- What has run, as a function. -/
def runOf (listed : Array Bool) : Run := fun j => listed.getD j false
theorem runOf_set {listed : Array Bool} {i : Nat} (hi : i < listed.size) : runOf (listed.setIfInBounds i true) = mark (runOf listed) i := by
  funext j
  unfold runOf mark
  by_cases h : j = i
  · subst h; rw [if_pos rfl]; simp [hi]
  · rw [if_neg h, getD_set_ne false (fun e => h e.symm)]

theorem wpOp_of (hok : Ok ops) (hseq : Seq ops Af val a0) (hst : ∀ i o, ops[i]? = some o → Step P ops I i o (Af i) (val i)) {γ : Gh} {listed : Array Bool} {a : Act} {w : World} (inv : Inv ops val a0 γ listed a) (hI : I γ (runOf listed) w) {Q : Exit → Act → World → Prop} {i : Nat} (hr : i ∈ Region.ready .any ops listed)
    {K : Act → World → Prop} (hK : ∀ γ' a' w', Inv ops val a0 γ' (listed.setIfInBounds i true) a' → I γ' (runOf (listed.setIfInBounds i true)) w' → K a' w') : wpOp P ops Q i K a w := by
  obtain ⟨hun, oi, hi, hrd⟩ := mem_ready.1 hr
  have hun' := getD_both hun
  have hil := (Array.getElem?_eq_some_iff.1 hi).1
  obtain ⟨he, hwd⟩ := eval_of_agree (hok.sel i oi · · hi) (fun s hs => agree hok hseq inv hi hun' hrd hs)
  have hset := runOf_set (listed := listed) (i := i) (by rw [inv.size]; exact hil)
  unfold Go.wpOp
  simp only [hi]
  have next : ∀ b v w', (Af i γ).put oi.dst v = (Af i γ).put oi.dst (val i b) → I (upd γ i b) (mark (runOf listed) i) w' → K (a.put oi.dst v) w' := fun b v w' hv hI' => hK _ _ _ (inv_next hok hseq inv hi hrd hv) (by rw [hset]; exact hI')
  rw [hwd]
  rcases hst i oi hi with ⟨hnw, hu, hm⟩ | ⟨hw, hs⟩
  · rw [if_neg (by rw [hnw]; simp)]
    refine next (γ i) undef w (by rw [hu]) ?_
    have e : upd γ i (γ i) = γ := by
      funext j; unfold upd
      by_cases h : j = i
      · rw [if_pos h, h]
      · rw [if_neg h]
    rw [e]
    exact hm _ _ _ hI
  · rw [if_pos (hw γ)]
    refine .inl ?_
    have h := hs γ (runOf listed) w hun' (fun j hj => by obtain ⟨e, he, hb, hon⟩ := waits_spec hi hj; have := hrd e he hb; rw [hon] at this; exact this) hI
    unfold Oper.wp at h ⊢
    rw [he]
    generalize (execOp (Af i γ).eval oi).run P w = r at h
    cases r with
    | ok n w' =>
      cases n with
      | value v => obtain ⟨b, h1, h2⟩ := h; exact next b v w' h1 h2
      | skip => obtain ⟨b, h1, h2⟩ := h; exact next b undef w' h1 h2
      | defer d =>
        exfalso
        obtain ⟨b, h1, _⟩ := h
        have := congrArg Act.defers h1
        rw [put_defers', put_defers'] at this
        exact absurd (congrArg List.length this) (by simp)
      | enter f args =>
        refine Calls.mono h fun e w'' r => ?_
        cases e with
        | returned v => obtain ⟨b, h1, h2⟩ := r; exact next b v w'' h1 h2
        | panicked c => exact r.elim
        | outgrown => obtain ⟨_, _, h⟩ := r; exact h.elim
      | row row args => exact Rows.mono h fun v w'' r => by obtain ⟨b, h1, h2⟩ := r; exact next b v w'' h1 h2
      | _ => exact h.elim
    | halt x w' => cases x <;> exact h.elim

theorem all_listed (hok : Ok ops) {listed : Array Bool} (hr : Region.ready .any ops listed = []) (hsz : listed.size = ops.size) : ∀ n i, i < n → i < ops.size → listed.getD i false = true
  | 0, i, h, _ => absurd h (by omega)
  | n + 1, i, h, hi => by
    rcases Nat.lt_or_ge i n with hlt | hge
    · exact all_listed hok hr hsz n i hlt hi
    · cases hc : listed.getD i false with
      | true => rfl
      | false =>
        exfalso
        have hoi := Array.getElem?_eq_getElem hi
        have hmem : i ∈ Region.ready .any ops listed := mem_ready.2 ⟨getD_in (by omega) hc, _, hoi, fun e he hb => by
          have := hok.back i _ hoi e he hb
          exact all_listed hok hr hsz n e.on (by omega) (by omega)⟩
        rw [hr] at hmem
        cases hmem

theorem final (hok : Ok ops) (hseq : Seq ops Af val a0) {γ : Gh} {listed : Array Bool} {a : Act} (inv : Inv ops val a0 γ listed a) (hr : Region.ready .any ops listed = []) : a = Af ops.size γ := by
  have hall := fun i hi => all_listed hok hr inv.size ops.size i hi hi
  have ht : a.tmps = (Af ops.size γ).tmps := by
    apply Array.ext_getElem?
    intro s
    by_cases hw : ∃ (j : Nat) (oj : Oper), ops[j]? = some oj ∧ oj.dst = some s
    · obtain ⟨j, oj, hj, hd⟩ := hw
      have hjl := (Array.getElem?_eq_some_iff.1 hj).1
      rw [inv.done j oj s hj hd (hall j hjl), hseq.at_ hok γ hj hd hjl (Nat.le_refl _)]
    · have hno : ∀ (j : Nat) (oj : Oper), ops[j]? = some oj → oj.dst ≠ some s := fun j oj hj hd => hw ⟨j, oj, hj, hd⟩
      rw [inv.rest s (fun j oj hj _ => hno j oj hj), hseq.keeps γ 0 ops.size (by omega) (Nat.le_refl _) (fun k ok _ _ hk => hno k ok hk), hseq.zero]
  have hd : a.defers = (Af ops.size γ).defers := by rw [inv.defers, (hseq.size γ ops.size (Nat.le_refl _)).2]
  cases a
  cases h : Af ops.size γ
  rw [h] at ht hd
  simp only at ht hd
  subst ht hd
  rfl

theorem wpAny_of (hok : Ok ops) (hseq : Seq ops Af val a0) (hst : ∀ i o, ops[i]? = some o → Step P ops I i o (Af i) (val i)) {Q : Exit → Act → World → Prop} (hQ : ∀ γ L w, (∀ j, j < ops.size → L j = true) → I γ L w → Q .normal (Af ops.size γ) w) :
    ∀ (fuel : Nat) (γ : Gh) (listed : Array Bool) (a : Act) (w : World), Inv ops val a0 γ listed a → I γ (runOf listed) w → (ops.size ≤ fuel + ((List.range ops.size).filter fun i => listed.getD i false).length) → wpAny P .any ops Q fuel listed a w
  | 0, γ, listed, a, w, inv, hI, hf => by
    have hall : Region.ready .any ops listed = [] := by
      rw [List.eq_nil_iff_forall_not_mem]
      intro i hi
      obtain ⟨hun, oi, ho, _⟩ := mem_ready.1 hi
      have hil := (Array.getElem?_eq_some_iff.1 ho).1
      have hlen : ((List.range ops.size).filter fun i => listed.getD i false).length = (List.range ops.size).length := by
        have := List.length_filter_le (fun i => listed.getD i false) (List.range ops.size)
        rw [List.length_range] at this ⊢
        omega
      have := List.length_filter_eq_length_iff.1 hlen i (List.mem_range.2 hil)
      rw [getD_both hun] at this
      cases this
    exact ⟨hall, by rw [final hok hseq inv hall]; exact hQ γ _ w (fun j hj => all_listed hok hall inv.size ops.size j hj hj) hI⟩
  | fuel + 1, γ, listed, a, w, inv, hI, hf => by
    refine ⟨fun hr => by rw [final hok hseq inv hr]; exact hQ γ _ w (fun j hj => all_listed hok hr inv.size ops.size j hj hj) hI, fun i hi => wpOp_of hok hseq hst inv hI hi fun γ' a' w' inv' hI' => wpAny_of hok hseq hst hQ fuel γ' _ a' w' inv' hI' ?_⟩
    obtain ⟨hun, oi, ho, _⟩ := mem_ready.1 hi
    have hil := (Array.getElem?_eq_some_iff.1 ho).1
    have hlt : ((List.range ops.size).filter fun i => listed.getD i false).length < ((List.range ops.size).filter fun j => (listed.setIfInBounds i true).getD j false).length := by
      rw [← List.countP_eq_length_filter, ← List.countP_eq_length_filter]
      have hsplit := range_split ops.size i hil
      rw [hsplit, List.countP_append, List.countP_append, List.countP_cons, List.countP_cons]
      have h1 : List.countP (fun i => listed.getD i false) (List.range i) ≤ List.countP (fun j => (listed.setIfInBounds i true).getD j false) (List.range i) := List.countP_mono_left fun j _ h => getD_set_true h
      have h2 : List.countP (fun i => listed.getD i false) (List.range' (i + 1) (ops.size - (i + 1))) ≤ List.countP (fun j => (listed.setIfInBounds i true).getD j false) (List.range' (i + 1) (ops.size - (i + 1))) := List.countP_mono_left fun j _ h => getD_set_true h
      have h3 : (listed.setIfInBounds i true).getD i false = true := by simp [inv.size, hil]
      rw [h3, getD_both hun]
      simp
      simp at h1 h2
      omega
    omega

/-- THE LAW. -/
theorem ghost {id : Nat} {l : List Oper} {a : Act} {w : World} {Q : Exit → Act → World → Prop} (I : Gh → Run → World → Prop) (hm : P.follows .mixedOrders = true) (hok : ok l.toArray = true)
    (hI : ∀ γ, I γ (fun _ => false) { w with drawn := w.drawn + 1 }) (h : walk P l.toArray I (fun A => ∀ γ L w', (∀ j, j < l.length → L j = true) → I γ L w' → Q .normal (A γ) w') 0 l (fun _ => a)) : (Code.region id l.toArray true).wp P Q a w := by
  obtain ⟨Af, val, h0, hst, hQ⟩ := walk_acts l 0 _ h
  have hsz : l.toArray.size = l.length := by simp
  have hseq : Seq l.toArray Af val a := ⟨fun γ => by rw [h0], fun k o hk γ => by have := (hst k o (by simpa using hk)).2 γ; rwa [Nat.zero_add] at this⟩
  have hst' : ∀ i o, l.toArray[i]? = some o → Step P l.toArray I i o (Af i) (val i) := fun i o hi => by have := (hst i o (by simpa using hi)).1; rwa [Nat.zero_add] at this
  refine wp_region_any hm (wpAny_of (ok_spec hok) hseq hst' (by rw [hsz]; exact hQ) _ (fun _ => 0) _ a _ ⟨by simp, fun j oj _ hl => (by rw [getD_replicate_false] at hl; cases hl), rfl, rfl, fun j oj s _ _ hl => (by rw [getD_replicate_false] at hl; cases hl), fun s _ => rfl⟩ ?_ (by omega))
  have e : runOf (Array.replicate l.toArray.size false) = fun _ => false := by funext j; unfold runOf; rw [getD_replicate_false]
  rw [e]
  exact hI _

theorem walk_nil {Q : (Gh → Act) → Prop} {A : Gh → Act} {i : Nat} (h : Q A) : walk P ops I Q i [] A := h
theorem walk_no {Q : (Gh → Act) → Prop} {A : Gh → Act} {o : Oper} {rest : List Oper} {i : Nat} (hw : ∀ γ, Region.wanted o (yielded ops (A γ).tmps) = false) (hm : ∀ γ L w, I γ L w → I γ (mark L i) w) (h : walk P ops I Q (i + 1) rest (fun γ => (A γ).put o.dst undef)) : walk P ops I Q i (o :: rest) A :=
  ⟨fun _ => undef, .inl ⟨hw, fun _ => rfl, hm⟩, h⟩
/-- An operation: its value, of its ghost; what it needs to have run before it may be asked by 'kernel_rfl'. -/
theorem walk_yes {Q : (Gh → Act) → Prop} {A : Gh → Act} {o : Oper} {rest : List Oper} {i : Nat} (val : Nat → Value) (hw : ∀ γ, Region.wanted o (yielded ops (A γ).tmps) = true)
    (hs : ∀ γ (L : Run) w, L i = false → (∀ j, Region.waitsFor .any ops i j = true → L j = true) → I γ L w → ∀ K : Act → World → Prop, (∀ b w', I (upd γ i b) (mark L i) w' → K ((A γ).put o.dst (val b)) w') → o.wp P (A γ) w K NoEnd)
    (h : walk P ops I Q (i + 1) rest (fun γ => (A γ).put o.dst (val (γ i)))) : walk P ops I Q i (o :: rest) A :=
  ⟨val, .inr ⟨hw, fun γ L w h1 h2 h3 => hs γ L w h1 h2 h3 _ (fun b _ h' => ⟨b, rfl, h'⟩)⟩, h⟩
/-- An operation that gives one value, whatever the ghosts. -/
theorem walk_const {Q : (Gh → Act) → Prop} {A : Gh → Act} {o : Oper} {rest : List Oper} {i : Nat} {v : Value} (hw : ∀ γ, Region.wanted o (yielded ops (A γ).tmps) = true)
    (hs : ∀ γ (L : Run) w, L i = false → (∀ j, Region.waitsFor .any ops i j = true → L j = true) → I γ L w → ∀ K : Act → World → Prop, (∀ w', I (upd γ i 0) (mark L i) w' → K ((A γ).put o.dst v) w') → o.wp P (A γ) w K NoEnd)
    (h : walk P ops I Q (i + 1) rest (fun γ => (A γ).put o.dst v)) : walk P ops I Q i (o :: rest) A :=
  walk_yes (fun _ => v) hw (fun γ L w h1 h2 h3 K hK => hs γ L w h1 h2 h3 K (fun w' h' => hK 0 w' h')) h
/-- One block that an operation of the region makes (number k): its ghost is its number. -/
structure Made (W1 : World) (k : Nat) (row : Obj) (γ : Gh) (L : Run) (wx : World) : Prop where
  below : Go.RowKit.Below W1.heap.size W1 wx
  row : L k = true → W1.heap.size ≤ γ k ∧ wx.heap[γ k]? = some row
theorem Made.next {W1 wx w' : World} {k i b : Nat} {row : Obj} {γ : Gh} {L : Run} (h : Made W1 k row γ L wx) (hi : k ≠ i) (hb : Go.RowKit.Below wx.heap.size wx w') : Made W1 k row (upd γ i b) (mark L i) w' := by
  refine ⟨h.below.trans (hb.mono h.below.size), fun hl => ?_⟩
  have e1 : mark L i k = L k := by unfold mark; rw [if_neg hi]
  have e2 : upd γ i b k = γ k := by unfold upd; rw [if_neg hi]
  rw [e1] at hl
  rw [e2]
  obtain ⟨h1, h2⟩ := h.row hl
  have hlt : γ k < wx.heap.size := by
    rcases Nat.lt_or_ge (γ k) wx.heap.size with h3 | h3
    · exact h3
    · rw [Array.getElem?_eq_none h3] at h2; cases h2
  exact ⟨h1, (hb.block _ hlt).trans h2⟩
theorem Made.make {W1 wx : World} {k : Nat} {row : Obj} {γ : Gh} {L : Run} (h : Made W1 k row γ L wx) : Made W1 k row (upd γ k wx.heap.size) (mark L k) (wx.alloc row) := by
  refine ⟨h.below.alloc h.below.size row, fun _ => ?_⟩
  have e2 : upd γ k wx.heap.size k = wx.heap.size := by unfold upd; rw [if_pos rfl]
  rw [e2]
  exact ⟨h.below.size, heap_alloc_new wx row⟩
end
end Ghost
end

section
open Go.RowKit Frm

set_option maxRecDepth 100000 in
set_option maxHeartbeats 4000000 in
theorem refIn_no (x : BldD) (A : Option Addr) (cap : Nat) (y : In) (A' : Option Addr) (cp : Nat) (w : World) (hxn : x.cars.length ≤ 140737488355328) (hc : CarsAt w w.heap.size A x.cars) (hn : y.cars.length ≤ 1000) (hy : saneIn y) (hv : CarsV w A' y.cars) (hB : isInB x y = false) :
    Calls Try.prog 12 #[x.agg A cap, inAgg y A' cp] w fun e w' => e = .returned (.tuple #[.string ⟨#[]⟩, .int .i64 1]) ∧ Below w.heap.size w w' := by
  have F0 := Lib.hid (fun wx (h : Below w.heap.size w wx) => refIsIn_any x A cap y A' cp wx hxn ((hc.below h).more h.size) hn hy (hv.below h))
  rw [hB] at F0
  clear hc hv hy hB
  obtain ⟨pu, pd, kind, car, ys⟩ := y
  obtain ⟨f, d, r, p, e1, e2, e3, cs⟩ := x
  simp only [BldD.agg, inAgg] at *
  go_enter Try.func12, Try.ntmps12
  go_wp2_with fail
  obtain ⟨W0, hW0⟩ : ∃ W0, W0 = (w.alloc (.cells #[.int .i64 f, .int .i64 d, .int .i64 r, .int .i64 p, .float .f64 e1, .float .f64 e2, .float .f64 e3, .slice A cs.length cap] 25)).alloc (.cells #[.int .u32 pu, .int .u32 pd, .int .i64 kind, .int .i64 car, .slice A' ys.length cp] 33) := ⟨_, rfl⟩
  rw [← hW0]
  have hs0 : W0.heap.size = w.heap.size + 2 := by rw [hW0]; simp
  have HBW : Hid (Below w.heap.size w W0) := by rw [hW0]; exact ((Below.refl _ _).alloc (Nat.le_refl _) _).alloc (by simp) _
  have HB : Hid (∀ wx, Below W0.heap.size W0 wx → wx.cell? ⟨w.heap.size, 0, none⟩ = some (.int .i64 f) ∧ wx.cell? ⟨w.heap.size, 1, none⟩ = some (.int .i64 d) ∧ wx.cell? ⟨w.heap.size, 2, none⟩ = some (.int .i64 r) ∧ wx.cell? ⟨w.heap.size, 3, none⟩ = some (.int .i64 p) ∧ wx.cell? ⟨w.heap.size, 4, none⟩ = some (.float .f64 e1) ∧ wx.cell? ⟨w.heap.size, 5, none⟩ = some (.float .f64 e2) ∧ wx.cell? ⟨w.heap.size, 6, none⟩ = some (.float .f64 e3) ∧ wx.cell? ⟨w.heap.size, 7, none⟩ = some (.slice A cs.length cap) ∧ wx.cell? ⟨w.heap.size + 1, 0, none⟩ = some (.int .u32 pu) ∧ wx.cell? ⟨w.heap.size + 1, 1, none⟩ = some (.int .u32 pd) ∧ wx.cell? ⟨w.heap.size + 1, 2, none⟩ = some (.int .i64 kind) ∧ wx.cell? ⟨w.heap.size + 1, 3, none⟩ = some (.int .i64 car) ∧ wx.cell? ⟨w.heap.size + 1, 4, none⟩ = some (.slice A' ys.length cp)) := fun wx h => by
    have r0 : wx.heap[w.heap.size]? = some (.cells #[.int .i64 f, .int .i64 d, .int .i64 r, .int .i64 p, .float .f64 e1, .float .f64 e2, .float .f64 e3, .slice A cs.length cap] 25 (0, 0)) := (h.block _ (by omega)).trans (by rw [hW0]; exact (Below.heap_alloc _ _ _ (by simp)).trans (heap_alloc_new w _))
    have r1 : wx.heap[w.heap.size + 1]? = some (.cells #[.int .u32 pu, .int .u32 pd, .int .i64 kind, .int .i64 car, .slice A' ys.length cp] 33 (0, 0)) := (h.block _ (by omega)).trans (by
      rw [hW0]
      have h := heap_alloc_new (w.alloc (.cells #[.int .i64 f, .int .i64 d, .int .i64 r, .int .i64 p, .float .f64 e1, .float .f64 e2, .float .f64 e3, .slice A cs.length cap] 25)) (.cells #[.int .u32 pu, .int .u32 pd, .int .i64 kind, .int .i64 car, .slice A' ys.length cp] 33)
      have e : (w.alloc (.cells #[.int .i64 f, .int .i64 d, .int .i64 r, .int .i64 p, .float .f64 e1, .float .f64 e2, .float .f64 e3, .slice A cs.length cap] 25)).heap.size = w.heap.size + 1 := by simp
      rw [e] at h
      exact h)
    exact ⟨cell_of_row _ _ _ _ _ (0, 0) r0, cell_of_row _ _ _ _ _ (0, 0) r0, cell_of_row _ _ _ _ _ (0, 0) r0, cell_of_row _ _ _ _ _ (0, 0) r0, cell_of_row _ _ _ _ _ (0, 0) r0, cell_of_row _ _ _ _ _ (0, 0) r0, cell_of_row _ _ _ _ _ (0, 0) r0, cell_of_row _ _ _ _ _ (0, 0) r0, cell_of_row _ _ _ _ _ (0, 0) r1, cell_of_row _ _ _ _ _ (0, 0) r1, cell_of_row _ _ _ _ _ (0, 0) r1, cell_of_row _ _ _ _ _ (0, 0) r1, cell_of_row _ _ _ _ _ (0, 0) r1⟩
  clear hW0
  refine (F0.out W0 HBW.out).mono ?_
  rintro e w1 ⟨rfl, hb1⟩
  obtain ⟨a0, a1, a2, a3, a4, a5, a6, a7, a8, a9, a10, a11, a12⟩ := HB.out w1 hb1
  have HX := Lib.hid hb1
  clear hb1
  go_wp2_with fail
  go_ret2
  exact ⟨rfl, HBW.out.trans (HX.out.mono (by omega))⟩

theorem float64bits_run (n : Nat) (w : World) : (callFunc 35 #[.float .f64 n]).run Try.prog w = .ok (.value (.int .u64 n)) w := by
  rw [run_callFunc_extern (e := Extern.MathFloatBits.float64bits) Try.func35 (by kernel_rfl) (by kernel_rfl) (by kernel_rfl) (by kernel_rfl)]
  rfl
theorem str_size (l : List UInt8) : (⟨l.toArray⟩ : ByteArray).size = l.length := List.size_toArray

/-- The frame up to its cars. -/
def inHd (C : Nat) (y : In) : List UInt8 := numL 165 1 ++ (numL C 1 ++ ((numL y.pu 4 ++ numL y.pd 4) ++ (numL (m64 y.kind) 1 ++ numL (m64 y.car) 1)))

set_option maxRecDepth 100000 in
set_option maxHeartbeats 4000000 in
theorem refIn_good (x : BldD) (A : Option Addr) (cap : Nat) (y : In) (A' : Option Addr) (cp : Nat) (w : World) (hxn : x.cars.length ≤ 1000) (hc : CarsAt w w.heap.size A x.cars) (hn : y.cars.length ≤ 1000) (hy : saneIn y) (hv : CarsV w A' y.cars) (hB : isInB x y = true) :
    Calls Try.prog 12 #[x.agg A cap, inAgg y A' cp] w fun e w' => e = .returned (.tuple #[.string ⟨(sealL (inHd x.cars.length y ++ y.cars.flatMap carB)).toArray⟩, .int .i64 0]) ∧ Below w.heap.size w w' := by
  have F0 := Lib.hid (fun wx (h : Below w.heap.size w wx) => refIsIn_any x A cap y A' cp wx (by omega) ((hc.below h).more h.size) hn hy (hv.below h))
  rw [hB] at F0
  have HV := Lib.hid hv
  have HSC : Hid (∀ c ∈ y.cars, saneCar c) := hy.2.2.2.2
  have hpu := hy.1
  have hpd := hy.2.1
  have hCw : IntKind.u64.wrap (x.cars.length : Int) = (x.cars.length : Int) := by rw [IntKind.wrap_u64]; omega
  have hkw := m64_wrap y.kind
  have hcw := m64_wrap y.car
  clear hc hv hy hB
  obtain ⟨T, hT⟩ : ∃ T, T = inHd x.cars.length y := ⟨_, rfl⟩
  rw [← hT]
  unfold inHd at hT
  have N1 := Lib.hid (fun wx => refNum_any 165 1 wx (by omega))
  have N2 := Lib.hid (fun wx => refNum_any x.cars.length 1 wx (by omega))
  have N3 := Lib.hid (fun wx => refCalls_any y.pu y.pd wx hpu hpd)
  have N4 := Lib.hid (fun wx => refNum_any (m64 y.kind) 1 wx (by omega))
  have N5 := Lib.hid (fun wx => refNum_any (m64 y.car) 1 wx (by omega))
  have hcat : ((((⟨(numL 165 1).toArray⟩ : ByteArray) ++ (⟨(numL x.cars.length 1).toArray⟩ : ByteArray)) ++ (⟨(numL y.pu 4 ++ numL y.pd 4).toArray⟩ : ByteArray)) ++ (⟨(numL (m64 y.kind) 1).toArray⟩ : ByteArray)) ++ (⟨(numL (m64 y.car) 1).toArray⟩ : ByteArray) = ⟨T.toArray⟩ := by
    rw [app_bl, app_bl, app_bl, app_bl, hT]
    simp only [bytes_u, List.append_assoc]
  have z1 := str_size (numL 165 1)
  have z2 := str_size (numL x.cars.length 1)
  have z3 := str_size (numL y.pu 4 ++ numL y.pd 4)
  have z4 := str_size (numL (m64 y.kind) 1)
  have z5 := str_size (numL (m64 y.car) 1)
  simp only [List.length_append, numL_length] at z1 z2 z3 z4 z5
  have HTL : Hid (T.length = 12) := by rw [hT]; show _ = _; simp only [List.length_append, numL_length]
  clear hT
  generalize (⟨(numL 165 1).toArray⟩ : ByteArray) = B1 at *
  generalize (⟨(numL x.cars.length 1).toArray⟩ : ByteArray) = B2 at *
  generalize (⟨(numL y.pu 4 ++ numL y.pd 4).toArray⟩ : ByteArray) = B3 at *
  generalize (⟨(numL (m64 y.kind) 1).toArray⟩ : ByteArray) = B4 at *
  generalize (⟨(numL (m64 y.car) 1).toArray⟩ : ByteArray) = B5 at *
  have HCAT := Lib.hid hcat
  clear hcat
  obtain ⟨pu, pd, kind, car, ys⟩ := y
  obtain ⟨f, d, r, p, e1, e2, e3, cs⟩ := x
  simp only [BldD.agg, inAgg] at *
  generalize m64 kind = mk at *
  generalize m64 car = mc at *
  go_enter Try.func12, Try.ntmps12
  go_wp2_with fail
  obtain ⟨W0, hW0⟩ : ∃ W0, W0 = (w.alloc (.cells #[.int .i64 f, .int .i64 d, .int .i64 r, .int .i64 p, .float .f64 e1, .float .f64 e2, .float .f64 e3, .slice A cs.length cap] 25)).alloc (.cells #[.int .u32 pu, .int .u32 pd, .int .i64 kind, .int .i64 car, .slice A' ys.length cp] 33) := ⟨_, rfl⟩
  rw [← hW0]
  have hs0 : W0.heap.size = w.heap.size + 2 := by rw [hW0]; simp
  have HBW : Hid (Below w.heap.size w W0) := by rw [hW0]; exact ((Below.refl _ _).alloc (Nat.le_refl _) _).alloc (by simp) _
  have HB : Hid (∀ wx, Below W0.heap.size W0 wx → wx.cell? ⟨w.heap.size, 0, none⟩ = some (.int .i64 f) ∧ wx.cell? ⟨w.heap.size, 1, none⟩ = some (.int .i64 d) ∧ wx.cell? ⟨w.heap.size, 2, none⟩ = some (.int .i64 r) ∧ wx.cell? ⟨w.heap.size, 3, none⟩ = some (.int .i64 p) ∧ wx.cell? ⟨w.heap.size, 4, none⟩ = some (.float .f64 e1) ∧ wx.cell? ⟨w.heap.size, 5, none⟩ = some (.float .f64 e2) ∧ wx.cell? ⟨w.heap.size, 6, none⟩ = some (.float .f64 e3) ∧ wx.cell? ⟨w.heap.size, 7, none⟩ = some (.slice A cs.length cap) ∧ wx.cell? ⟨w.heap.size + 1, 0, none⟩ = some (.int .u32 pu) ∧ wx.cell? ⟨w.heap.size + 1, 1, none⟩ = some (.int .u32 pd) ∧ wx.cell? ⟨w.heap.size + 1, 2, none⟩ = some (.int .i64 kind) ∧ wx.cell? ⟨w.heap.size + 1, 3, none⟩ = some (.int .i64 car) ∧ wx.cell? ⟨w.heap.size + 1, 4, none⟩ = some (.slice A' ys.length cp)) := fun wx h => by
    have r0 : wx.heap[w.heap.size]? = some (.cells #[.int .i64 f, .int .i64 d, .int .i64 r, .int .i64 p, .float .f64 e1, .float .f64 e2, .float .f64 e3, .slice A cs.length cap] 25 (0, 0)) := (h.block _ (by omega)).trans (by rw [hW0]; exact (Below.heap_alloc _ _ _ (by simp)).trans (heap_alloc_new w _))
    have r1 : wx.heap[w.heap.size + 1]? = some (.cells #[.int .u32 pu, .int .u32 pd, .int .i64 kind, .int .i64 car, .slice A' ys.length cp] 33 (0, 0)) := (h.block _ (by omega)).trans (by
      rw [hW0]
      have h := heap_alloc_new (w.alloc (.cells #[.int .i64 f, .int .i64 d, .int .i64 r, .int .i64 p, .float .f64 e1, .float .f64 e2, .float .f64 e3, .slice A cs.length cap] 25)) (.cells #[.int .u32 pu, .int .u32 pd, .int .i64 kind, .int .i64 car, .slice A' ys.length cp] 33)
      have e : (w.alloc (.cells #[.int .i64 f, .int .i64 d, .int .i64 r, .int .i64 p, .float .f64 e1, .float .f64 e2, .float .f64 e3, .slice A cs.length cap] 25)).heap.size = w.heap.size + 1 := by simp
      rw [e] at h
      exact h)
    exact ⟨cell_of_row _ _ _ _ _ (0, 0) r0, cell_of_row _ _ _ _ _ (0, 0) r0, cell_of_row _ _ _ _ _ (0, 0) r0, cell_of_row _ _ _ _ _ (0, 0) r0, cell_of_row _ _ _ _ _ (0, 0) r0, cell_of_row _ _ _ _ _ (0, 0) r0, cell_of_row _ _ _ _ _ (0, 0) r0, cell_of_row _ _ _ _ _ (0, 0) r0, cell_of_row _ _ _ _ _ (0, 0) r1, cell_of_row _ _ _ _ _ (0, 0) r1, cell_of_row _ _ _ _ _ (0, 0) r1, cell_of_row _ _ _ _ _ (0, 0) r1, cell_of_row _ _ _ _ _ (0, 0) r1⟩
  clear hW0
  refine (F0.out W0 HBW.out).mono ?_
  rintro e w1 ⟨rfl, hb1⟩
  obtain ⟨a0, a1, a2, a3, a4, a5, a6, a7, a8, a9, a10, a11, a12⟩ := HB.out w1 hb1
  have HX := Lib.hid hb1
  clear hb1
  go_wp2_with fail
  clear a0 a1 a2 a3 a4 a5 a6 a7 a8 a9 a10 a11 a12
  refine Bag.region (fun wx => Below w1.heap.size w1 wx) (by kernel_rfl) (by kernel_rfl) (Below.refl _ _).drew ?_
  iterate 1
    (apply Bag.walk_yes (by rfl)
     (intro wx hx K hK
      obtain ⟨a0, a1, a2, a3, a4, a5, a6, a7, a8, a9, a10, a11, a12⟩ := HB.out wx (HX.out.trans (hx.mono HX.out.size))
      have HXX := Lib.hid hx
      clear hx
      go_simp
      go_at_call 32; refine (N1.out _).mono ?_; rintro e w3 ⟨rfl, hb3⟩; exact hK _ (HXX.out.trans (hb3.mono HXX.out.size)))
     rfl)
  iterate 4
    (apply Bag.walk_yes (by rfl)
     (intro wx hx K hK
      obtain ⟨a0, a1, a2, a3, a4, a5, a6, a7, a8, a9, a10, a11, a12⟩ := HB.out wx (HX.out.trans (hx.mono HX.out.size))
      have HXX := Lib.hid hx
      clear hx
      go_simp
      go_at_K; exact hK _ HXX.out)
     rfl)
  iterate 1
    (apply Bag.walk_yes (by rfl)
     (intro wx hx K hK
      obtain ⟨a0, a1, a2, a3, a4, a5, a6, a7, a8, a9, a10, a11, a12⟩ := HB.out wx (HX.out.trans (hx.mono HX.out.size))
      have HXX := Lib.hid hx
      clear hx
      go_simp
      go_at_call 32; refine (N2.out _).mono ?_; rintro e w3 ⟨rfl, hb3⟩; exact hK _ (HXX.out.trans (hb3.mono HXX.out.size)))
     rfl)
  iterate 3
    (apply Bag.walk_yes (by rfl)
     (intro wx hx K hK
      obtain ⟨a0, a1, a2, a3, a4, a5, a6, a7, a8, a9, a10, a11, a12⟩ := HB.out wx (HX.out.trans (hx.mono HX.out.size))
      have HXX := Lib.hid hx
      clear hx
      go_simp
      go_at_K; exact hK _ HXX.out)
     rfl)
  iterate 1
    (apply Bag.walk_yes (by rfl)
     (intro wx hx K hK
      obtain ⟨a0, a1, a2, a3, a4, a5, a6, a7, a8, a9, a10, a11, a12⟩ := HB.out wx (HX.out.trans (hx.mono HX.out.size))
      have HXX := Lib.hid hx
      clear hx
      go_simp
      go_at_call 33; refine (N3.out _).mono ?_; rintro e w3 ⟨rfl, hb3⟩; exact hK _ (HXX.out.trans (hb3.mono HXX.out.size)))
     rfl)
  iterate 5
    (apply Bag.walk_yes (by rfl)
     (intro wx hx K hK
      obtain ⟨a0, a1, a2, a3, a4, a5, a6, a7, a8, a9, a10, a11, a12⟩ := HB.out wx (HX.out.trans (hx.mono HX.out.size))
      have HXX := Lib.hid hx
      clear hx
      go_simp
      go_at_K; exact hK _ HXX.out)
     rfl)
  iterate 1
    (apply Bag.walk_yes (by rfl)
     (intro wx hx K hK
      obtain ⟨a0, a1, a2, a3, a4, a5, a6, a7, a8, a9, a10, a11, a12⟩ := HB.out wx (HX.out.trans (hx.mono HX.out.size))
      have HXX := Lib.hid hx
      clear hx
      go_simp
      go_at_call 32; refine (N4.out _).mono ?_; rintro e w3 ⟨rfl, hb3⟩; exact hK _ (HXX.out.trans (hb3.mono HXX.out.size)))
     rfl)
  iterate 5
    (apply Bag.walk_yes (by rfl)
     (intro wx hx K hK
      obtain ⟨a0, a1, a2, a3, a4, a5, a6, a7, a8, a9, a10, a11, a12⟩ := HB.out wx (HX.out.trans (hx.mono HX.out.size))
      have HXX := Lib.hid hx
      clear hx
      go_simp
      go_at_K; exact hK _ HXX.out)
     rfl)
  iterate 1
    (apply Bag.walk_yes (by rfl)
     (intro wx hx K hK
      obtain ⟨a0, a1, a2, a3, a4, a5, a6, a7, a8, a9, a10, a11, a12⟩ := HB.out wx (HX.out.trans (hx.mono HX.out.size))
      have HXX := Lib.hid hx
      clear hx
      go_simp
      go_at_call 32; refine (N5.out _).mono ?_; rintro e w3 ⟨rfl, hb3⟩; exact hK _ (HXX.out.trans (hb3.mono HXX.out.size)))
     rfl)
  iterate 2
    (apply Bag.walk_yes (by rfl)
     (intro wx hx K hK
      obtain ⟨a0, a1, a2, a3, a4, a5, a6, a7, a8, a9, a10, a11, a12⟩ := HB.out wx (HX.out.trans (hx.mono HX.out.size))
      have HXX := Lib.hid hx
      clear hx
      go_simp
      go_at_K; exact hK _ HXX.out)
     rfl)
  refine Bag.walk_nil (fun w3 hx => ?_)
  have HX3 := Lib.hid (HX.out.trans (hx.mono HX.out.size))
  clear hx
  rw [HCAT.out]
  clear N1 N2 N3 N4 N5 HCAT z1 z2 z3 z4 z5
  go_wp2_with fail
  go_loopw [6, 7] (fun v6 v7 wr => ∃ m : Nat, m ≤ ys.length ∧ v7 = .int .i64 m ∧ v6 = .string ⟨(T ++ (ys.take m).flatMap carB).toArray⟩ ∧ Below W0.heap.size W0 wr) (fun _ v _ => ys.length - (intOf v).toNat)
  case atStart => exact ⟨0, Nat.zero_le _, rfl, by simp, HX3.out⟩
  case round =>
    obtain ⟨m, hm, rfl, rfl, hbr⟩ := hrel
    have hs0r : W0.heap.size ≤ wr.heap.size := hbr.size
    obtain ⟨a0, a1, a2, a3, a4, a5, a6, a7, a8, a9, a10, a11, a12⟩ := HB.out wr hbr
    have HBR := Lib.hid hbr
    clear hbr
    rcases Nat.lt_or_ge m ys.length with hlt | hge
    case inr =>
      obtain rfl : m = ys.length := by omega
      rw [List.take_length]
      have hz : (⟨(T ++ ys.flatMap carB).toArray⟩ : ByteArray).size ≤ 1000000 := by
        rw [str_size, List.length_append, HTL.out, flat_length carB_length]; omega
      have hbl : Hid (bl ⟨(T ++ ys.flatMap carB).toArray⟩ = T ++ ys.flatMap carB) := by
        show _ = _
        unfold bl; rfl
      generalize (⟨(T ++ ys.flatMap carB).toArray⟩ : ByteArray) = S at *
      have SEAL := Lib.hid (fun wx => refSeal_any S wx hz)
      rw [hbl.out] at SEAL
      clear hz hbl
      go_wp2_with fail
      refine (SEAL.out _).mono ?_
      rintro e w5 ⟨rfl, hb5⟩
      have HX5 := Lib.hid ((HBW.out.trans (HBR.out.mono (by omega))).trans (hb5.mono (by have := HBR.out.size; have := HBW.out.size; omega)))
      clear hb5
      go_wp2_with fail
      go_ret2
      exact ⟨rfl, HX5.out⟩
    have hbwr := HBW.out.trans (HBR.out.mono (by omega))
    rcases HV.out.below hbwr with h0 | ⟨b, off, rfl, hv⟩
    · subst h0; simp at hlt
    have g := hv m hlt
    have hsc := HSC.out ys[m] (List.getElem_mem hlt)
    have hnx : (ys.take (m + 1)).flatMap carB = (ys.take m).flatMap carB ++ carB ys[m] := by
      rw [List.take_succ_eq_append_getElem hlt, List.flatMap_append]; simp
    have hfl : ((ys.take m).flatMap carB).length = m * 19 := by rw [flat_length carB_length, List.length_take, Nat.min_eq_left (by omega)]
    clear hbwr hv
    generalize ys[m] = c at g hsc hnx
    have hzs : (⟨(T ++ (ys.take m).flatMap carB).toArray⟩ : ByteArray).size = 12 + m * 19 := by rw [str_size, List.length_append, HTL.out, hfl]
    have hcat : (((((((⟨(T ++ (ys.take m).flatMap carB).toArray⟩ : ByteArray) ++ (⟨(numL c.floors 4).toArray⟩ : ByteArray)) ++ (⟨(numL (flg c.flags) 1).toArray⟩ : ByteArray)) ++ (⟨(numL (m64 c.floor) 1).toArray⟩ : ByteArray)) ++ (⟨(numL (m64 c.door) 1).toArray⟩ : ByteArray)) ++ (⟨(numL c.calls 4).toArray⟩ : ByteArray)) ++ (⟨(numL c.load 8).toArray⟩ : ByteArray)) = ⟨(T ++ (ys.take (m + 1)).flatMap carB).toArray⟩ := by
      rw [app_bl, app_bl, app_bl, app_bl, app_bl, app_bl, hnx]
      simp only [bytes_u, List.append_assoc, carB]
    have N1 := Lib.hid (fun wx => refNum_any c.floors 4 wx (by omega))
    have N2 := Lib.hid (fun g wx (h0 : wx.cell? ⟨g, 0, none⟩ = some (.bool c.up)) (h1 : wx.cell? ⟨g, 1, none⟩ = some (.bool c.down)) (h2 : wx.cell? ⟨g, 2, none⟩ = some (.bool c.opened)) (h3 : wx.cell? ⟨g, 3, none⟩ = some (.bool c.closed)) (h4 : wx.cell? ⟨g, 4, none⟩ = some (.bool c.level)) (h5 : wx.cell? ⟨g, 5, none⟩ = some (.bool c.block)) => show Calls Try.prog 34 #[.slice (some ⟨g, 0, none⟩) 6 6] wx fun e w' => e = .returned (.string ⟨(numL (flg c.flags) 1).toArray⟩) ∧ Below wx.heap.size wx w' from refBits_any c.flags g 6 wx (by simp [CarIn.flags]) (fun j hj => by
      have hj6 : j < 6 := hj
      match j, hj6 with
      | 0, _ => exact h0
      | 1, _ => exact h1
      | 2, _ => exact h2
      | 3, _ => exact h3
      | 4, _ => exact h4
      | 5, _ => exact h5))
    have N3 := Lib.hid (fun wx => refNum_any (m64 c.floor) 1 wx (by omega))
    have N4 := Lib.hid (fun wx => refNum_any (m64 c.door) 1 wx (by omega))
    have N5 := Lib.hid (fun wx => refNum_any c.calls 4 wx (by omega))
    have N6 := Lib.hid (fun wx => refNum_any c.load 8 wx (by omega))
    have z1 := str_size (numL c.floors 4)
    have z2 := str_size (numL (flg c.flags) 1)
    have z3 := str_size (numL (m64 c.floor) 1)
    have z4 := str_size (numL (m64 c.door) 1)
    have z5 := str_size (numL c.calls 4)
    have z6 := str_size (numL c.load 8)
    simp only [numL_length] at z1 z2 z3 z4 z5 z6
    generalize (⟨(T ++ (ys.take m).flatMap carB).toArray⟩ : ByteArray) = S at *
    generalize (⟨(numL c.floors 4).toArray⟩ : ByteArray) = B1 at *
    generalize (⟨(numL (flg c.flags) 1).toArray⟩ : ByteArray) = B2 at *
    generalize (⟨(numL (m64 c.floor) 1).toArray⟩ : ByteArray) = B3 at *
    generalize (⟨(numL (m64 c.door) 1).toArray⟩ : ByteArray) = B4 at *
    generalize (⟨(numL c.calls 4).toArray⟩ : ByteArray) = B5 at *
    generalize (⟨(numL c.load 8).toArray⟩ : ByteArray) = B6 at *
    have HCAT := Lib.hid hcat
    have no1 : ¬ 9223372036854775807 < 12 + m * 19 + 4 := by omega
    have no2 : ¬ 9223372036854775807 < 12 + m * 19 + 4 + 1 := by omega
    have no3 : ¬ 9223372036854775807 < 12 + m * 19 + 4 + 1 + 1 := by omega
    have no4 : ¬ 9223372036854775807 < 12 + m * 19 + 4 + 1 + 1 + 1 := by omega
    have no5 : ¬ 9223372036854775807 < 12 + m * 19 + 4 + 1 + 1 + 1 + 4 := by omega
    have no6 : ¬ 9223372036854775807 < 12 + m * 19 + 4 + 1 + 1 + 1 + 4 + 8 := by omega
    have hfw := m64_wrap c.floor
    have hdw := m64_wrap c.door
    have hffw : IntKind.u64.wrap (c.floors : Int) = (c.floors : Int) := by rw [IntKind.wrap_u64]; have := hsc.1; omega
    have hccw : IntKind.u64.wrap (c.calls : Int) = (c.calls : Int) := by rw [IntKind.wrap_u64]; have := hsc.2.1; omega
    clear hcat hnx hfl
    have g0 : wr.cell? ⟨b, off + m * 11, none⟩ = some (.int .u32 c.floors) := g 0 _ rfl
    have g1 : wr.cell? ⟨b, off + m * 11 + 1, none⟩ = some (.bool c.up) := g 1 _ rfl
    have g2 : wr.cell? ⟨b, off + m * 11 + 2, none⟩ = some (.bool c.down) := g 2 _ rfl
    have g3 : wr.cell? ⟨b, off + m * 11 + 3, none⟩ = some (.bool c.opened) := g 3 _ rfl
    have g4 : wr.cell? ⟨b, off + m * 11 + 4, none⟩ = some (.bool c.closed) := g 4 _ rfl
    have g5 : wr.cell? ⟨b, off + m * 11 + 5, none⟩ = some (.int .i64 c.floor) := g 5 _ rfl
    have g6 : wr.cell? ⟨b, off + m * 11 + 6, none⟩ = some (.bool c.level) := g 6 _ rfl
    have g7 : wr.cell? ⟨b, off + m * 11 + 7, none⟩ = some (.int .i64 c.door) := g 7 _ rfl
    have g8 : wr.cell? ⟨b, off + m * 11 + 8, none⟩ = some (.bool c.block) := g 8 _ rfl
    have g9 : wr.cell? ⟨b, off + m * 11 + 9, none⟩ = some (.int .u32 c.calls) := g 9 _ rfl
    have g10 : wr.cell? ⟨b, off + m * 11 + 10, none⟩ = some (.float .f64 c.load) := g 10 _ rfl
    have hbl : b < wr.heap.size := World.block_lt_of_cell? wr _ g0
    clear g
    go_wp2_with fail
    obtain ⟨W1, hW1⟩ : ∃ W1, W1 = wr.alloc (.cells #[.int .u32 c.floors, .bool c.up, .bool c.down, .bool c.opened, .bool c.closed, .int .i64 c.floor, .bool c.level, .int .i64 c.door, .bool c.block, .int .u32 c.calls, .float .f64 c.load] 71) := ⟨_, rfl⟩
    rw [← hW1]
    have hs1 : W1.heap.size = wr.heap.size + 1 := by rw [hW1]; simp
    have HB1B : Hid (Below W0.heap.size W0 W1) := by rw [hW1]; exact HBR.out.alloc hs0r _
    have HB1 : Hid (∀ wx, Below W1.heap.size W1 wx → wx.cell? ⟨wr.heap.size, 0, none⟩ = some (.int .u32 c.floors) ∧ wx.cell? ⟨wr.heap.size, 1, none⟩ = some (.bool c.up) ∧ wx.cell? ⟨wr.heap.size, 2, none⟩ = some (.bool c.down) ∧ wx.cell? ⟨wr.heap.size, 3, none⟩ = some (.bool c.opened) ∧ wx.cell? ⟨wr.heap.size, 4, none⟩ = some (.bool c.closed) ∧ wx.cell? ⟨wr.heap.size, 5, none⟩ = some (.int .i64 c.floor) ∧ wx.cell? ⟨wr.heap.size, 6, none⟩ = some (.bool c.level) ∧ wx.cell? ⟨wr.heap.size, 7, none⟩ = some (.int .i64 c.door) ∧ wx.cell? ⟨wr.heap.size, 8, none⟩ = some (.bool c.block) ∧ wx.cell? ⟨wr.heap.size, 9, none⟩ = some (.int .u32 c.calls) ∧ wx.cell? ⟨wr.heap.size, 10, none⟩ = some (.float .f64 c.load)) := fun wx h => by
      have r1 : wx.heap[wr.heap.size]? = some (.cells #[.int .u32 c.floors, .bool c.up, .bool c.down, .bool c.opened, .bool c.closed, .int .i64 c.floor, .bool c.level, .int .i64 c.door, .bool c.block, .int .u32 c.calls, .float .f64 c.load] 71 (0, 0)) := (h.block _ (by omega)).trans (by rw [hW1]; exact heap_alloc_new wr _)
      exact ⟨cell_of_row _ _ _ _ _ (0, 0) r1, cell_of_row _ _ _ _ _ (0, 0) r1, cell_of_row _ _ _ _ _ (0, 0) r1, cell_of_row _ _ _ _ _ (0, 0) r1, cell_of_row _ _ _ _ _ (0, 0) r1, cell_of_row _ _ _ _ _ (0, 0) r1, cell_of_row _ _ _ _ _ (0, 0) r1, cell_of_row _ _ _ _ _ (0, 0) r1, cell_of_row _ _ _ _ _ (0, 0) r1, cell_of_row _ _ _ _ _ (0, 0) r1, cell_of_row _ _ _ _ _ (0, 0) r1⟩
    clear hW1 a0 a1 a2 a3 a4 a5 a6 a7 a8 a9 a10 a11 a12 g0 g1 g2 g3 g4 g5 g6 g7 g8 g9 g10
    obtain ⟨c0, c1, c2, c3, c4, c5, c6, c7, c8, c9, c10⟩ := HB1.out W1 (Below.refl _ _)
    have hpast : ∀ o j, (W1.alloc o).cell? ⟨wr.heap.size, j, none⟩ = W1.cell? ⟨wr.heap.size, j, none⟩ := fun o j => World.cell?_of_block (w := W1) (Below.heap_alloc W1 o wr.heap.size (by omega))
    have p0 := fun o => (hpast o 0).trans c0
    have p1 := fun o => (hpast o 1).trans c1
    have p2 := fun o => (hpast o 2).trans c2
    have p3 := fun o => (hpast o 3).trans c3
    have p4 := fun o => (hpast o 4).trans c4
    have p5 := fun o => (hpast o 5).trans c5
    have p6 := fun o => (hpast o 6).trans c6
    have p7 := fun o => (hpast o 7).trans c7
    have p8 := fun o => (hpast o 8).trans c8
    have p9 := fun o => (hpast o 9).trans c9
    have p10 := fun o => (hpast o 10).trans c10
    clear hpast
    clear p0 p1 p2 p3 p4 p5 p6 p7 p8 p9 p10 c0 c1 c2 c3 c4 c5 c6 c7 c8 c9 c10
    refine Ghost.ghost (fun γ L wx => Ghost.Made W1 25 (.cells #[.bool c.up, .bool c.down, .bool c.opened, .bool c.closed, .bool c.level, .bool c.block] 4 (0, 0)) γ L wx) (by kernel_rfl) (by kernel_rfl) (fun γ => ⟨(Below.refl _ _).drew, fun h => absurd h Bool.false_ne_true⟩) ?_
    apply Ghost.walk_const (fun γ => by rfl)
    · intro γ L wx h1 h2 hx K hK
      obtain ⟨c0, c1, c2, c3, c4, c5, c6, c7, c8, c9, c10⟩ := HB1.out wx hx.below
      have HK2 := Lib.hid hK
      have HX := Lib.hid hx
      clear hK h1 h2 hx
      go_simp
      exact HK2.out _ (HX.out.next (by decide) (Below.refl _ _))
    simp only [Act.put, List.setIfInBounds_toArray, List.set_cons_succ, List.set_cons_zero]
    apply Ghost.walk_const (fun γ => by rfl)
    · intro γ L wx h1 h2 hx K hK
      obtain ⟨c0, c1, c2, c3, c4, c5, c6, c7, c8, c9, c10⟩ := HB1.out wx hx.below
      have HK2 := Lib.hid hK
      have HX := Lib.hid hx
      clear hK h1 h2 hx
      go_simp
      exact HK2.out _ (HX.out.next (by decide) (Below.refl _ _))
    simp only [Act.put, List.setIfInBounds_toArray, List.set_cons_succ, List.set_cons_zero]
    apply Ghost.walk_const (fun γ => by rfl)
    · intro γ L wx h1 h2 hx K hK
      obtain ⟨c0, c1, c2, c3, c4, c5, c6, c7, c8, c9, c10⟩ := HB1.out wx hx.below
      have HK2 := Lib.hid hK
      have HX := Lib.hid hx
      clear hK h1 h2 hx
      go_simp
      exact HK2.out _ (HX.out.next (by decide) (Below.refl _ _))
    simp only [Act.put, List.setIfInBounds_toArray, List.set_cons_succ, List.set_cons_zero]
    apply Ghost.walk_const (fun γ => by rfl)
    · intro γ L wx h1 h2 hx K hK
      obtain ⟨c0, c1, c2, c3, c4, c5, c6, c7, c8, c9, c10⟩ := HB1.out wx hx.below
      have HK2 := Lib.hid hK
      have HX := Lib.hid hx
      clear hK h1 h2 hx
      go_simp
      exact HK2.out _ (HX.out.next (by decide) (Below.refl _ _))
    simp only [Act.put, List.setIfInBounds_toArray, List.set_cons_succ, List.set_cons_zero]
    apply Ghost.walk_const (fun γ => by rfl)
    · intro γ L wx h1 h2 hx K hK
      obtain ⟨c0, c1, c2, c3, c4, c5, c6, c7, c8, c9, c10⟩ := HB1.out wx hx.below
      have HK2 := Lib.hid hK
      have HX := Lib.hid hx
      clear hK h1 h2 hx
      go_simp
      exact HK2.out _ (HX.out.next (by decide) (Below.refl _ _))
    simp only [Act.put, List.setIfInBounds_toArray, List.set_cons_succ, List.set_cons_zero]
    apply Ghost.walk_const (fun γ => by rfl)
    · intro γ L wx h1 h2 hx K hK
      obtain ⟨c0, c1, c2, c3, c4, c5, c6, c7, c8, c9, c10⟩ := HB1.out wx hx.below
      have HK2 := Lib.hid hK
      have HX := Lib.hid hx
      clear hK h1 h2 hx
      go_simp
      go_at_call 32; refine (N1.out _).mono ?_; rintro e w5 ⟨rfl, hb5⟩; exact HK2.out _ (HX.out.next (by decide) hb5)
    simp only [Act.put, List.setIfInBounds_toArray, List.set_cons_succ, List.set_cons_zero]
    apply Ghost.walk_const (fun γ => by rfl)
    · intro γ L wx h1 h2 hx K hK
      obtain ⟨c0, c1, c2, c3, c4, c5, c6, c7, c8, c9, c10⟩ := HB1.out wx hx.below
      have HK2 := Lib.hid hK
      have HX := Lib.hid hx
      clear hK h1 h2 hx
      go_simp
      exact HK2.out _ (HX.out.next (by decide) (Below.refl _ _))
    simp only [Act.put, List.setIfInBounds_toArray, List.set_cons_succ, List.set_cons_zero]
    apply Ghost.walk_const (fun γ => by rfl)
    · intro γ L wx h1 h2 hx K hK
      obtain ⟨c0, c1, c2, c3, c4, c5, c6, c7, c8, c9, c10⟩ := HB1.out wx hx.below
      have HK2 := Lib.hid hK
      have HX := Lib.hid hx
      clear hK h1 h2 hx
      go_simp
      exact HK2.out _ (HX.out.next (by decide) (Below.refl _ _))
    simp only [Act.put, List.setIfInBounds_toArray, List.set_cons_succ, List.set_cons_zero]
    apply Ghost.walk_const (fun γ => by rfl)
    · intro γ L wx h1 h2 hx K hK
      obtain ⟨c0, c1, c2, c3, c4, c5, c6, c7, c8, c9, c10⟩ := HB1.out wx hx.below
      have HK2 := Lib.hid hK
      have HX := Lib.hid hx
      clear hK h1 h2 hx
      go_simp
      exact HK2.out _ (HX.out.next (by decide) (Below.refl _ _))
    simp only [Act.put, List.setIfInBounds_toArray, List.set_cons_succ, List.set_cons_zero]
    apply Ghost.walk_const (fun γ => by rfl)
    · intro γ L wx h1 h2 hx K hK
      obtain ⟨c0, c1, c2, c3, c4, c5, c6, c7, c8, c9, c10⟩ := HB1.out wx hx.below
      have HK2 := Lib.hid hK
      have HX := Lib.hid hx
      clear hK h1 h2 hx
      go_simp
      exact HK2.out _ (HX.out.next (by decide) (Below.refl _ _))
    simp only [Act.put, List.setIfInBounds_toArray, List.set_cons_succ, List.set_cons_zero]
    apply Ghost.walk_const (fun γ => by rfl)
    · intro γ L wx h1 h2 hx K hK
      obtain ⟨c0, c1, c2, c3, c4, c5, c6, c7, c8, c9, c10⟩ := HB1.out wx hx.below
      have HK2 := Lib.hid hK
      have HX := Lib.hid hx
      clear hK h1 h2 hx
      go_simp
      exact HK2.out _ (HX.out.next (by decide) (Below.refl _ _))
    simp only [Act.put, List.setIfInBounds_toArray, List.set_cons_succ, List.set_cons_zero]
    apply Ghost.walk_const (fun γ => by rfl)
    · intro γ L wx h1 h2 hx K hK
      obtain ⟨c0, c1, c2, c3, c4, c5, c6, c7, c8, c9, c10⟩ := HB1.out wx hx.below
      have HK2 := Lib.hid hK
      have HX := Lib.hid hx
      clear hK h1 h2 hx
      go_simp
      exact HK2.out _ (HX.out.next (by decide) (Below.refl _ _))
    simp only [Act.put, List.setIfInBounds_toArray, List.set_cons_succ, List.set_cons_zero]
    apply Ghost.walk_const (fun γ => by rfl)
    · intro γ L wx h1 h2 hx K hK
      obtain ⟨c0, c1, c2, c3, c4, c5, c6, c7, c8, c9, c10⟩ := HB1.out wx hx.below
      have HK2 := Lib.hid hK
      have HX := Lib.hid hx
      clear hK h1 h2 hx
      go_simp
      exact HK2.out _ (HX.out.next (by decide) (Below.refl _ _))
    simp only [Act.put, List.setIfInBounds_toArray, List.set_cons_succ, List.set_cons_zero]
    apply Ghost.walk_const (fun γ => by rfl)
    · intro γ L wx h1 h2 hx K hK
      obtain ⟨c0, c1, c2, c3, c4, c5, c6, c7, c8, c9, c10⟩ := HB1.out wx hx.below
      have HK2 := Lib.hid hK
      have HX := Lib.hid hx
      clear hK h1 h2 hx
      go_simp
      exact HK2.out _ (HX.out.next (by decide) (Below.refl _ _))
    simp only [Act.put, List.setIfInBounds_toArray, List.set_cons_succ, List.set_cons_zero]
    apply Ghost.walk_const (fun γ => by rfl)
    · intro γ L wx h1 h2 hx K hK
      obtain ⟨c0, c1, c2, c3, c4, c5, c6, c7, c8, c9, c10⟩ := HB1.out wx hx.below
      have HK2 := Lib.hid hK
      have HX := Lib.hid hx
      clear hK h1 h2 hx
      go_simp
      exact HK2.out _ (HX.out.next (by decide) (Below.refl _ _))
    simp only [Act.put, List.setIfInBounds_toArray, List.set_cons_succ, List.set_cons_zero]
    apply Ghost.walk_const (fun γ => by rfl)
    · intro γ L wx h1 h2 hx K hK
      obtain ⟨c0, c1, c2, c3, c4, c5, c6, c7, c8, c9, c10⟩ := HB1.out wx hx.below
      have HK2 := Lib.hid hK
      have HX := Lib.hid hx
      clear hK h1 h2 hx
      go_simp
      exact HK2.out _ (HX.out.next (by decide) (Below.refl _ _))
    simp only [Act.put, List.setIfInBounds_toArray, List.set_cons_succ, List.set_cons_zero]
    apply Ghost.walk_const (fun γ => by rfl)
    · intro γ L wx h1 h2 hx K hK
      obtain ⟨c0, c1, c2, c3, c4, c5, c6, c7, c8, c9, c10⟩ := HB1.out wx hx.below
      have HK2 := Lib.hid hK
      have HX := Lib.hid hx
      clear hK h1 h2 hx
      go_simp
      exact HK2.out _ (HX.out.next (by decide) (Below.refl _ _))
    simp only [Act.put, List.setIfInBounds_toArray, List.set_cons_succ, List.set_cons_zero]
    apply Ghost.walk_const (fun γ => by rfl)
    · intro γ L wx h1 h2 hx K hK
      obtain ⟨c0, c1, c2, c3, c4, c5, c6, c7, c8, c9, c10⟩ := HB1.out wx hx.below
      have HK2 := Lib.hid hK
      have HX := Lib.hid hx
      clear hK h1 h2 hx
      go_simp
      exact HK2.out _ (HX.out.next (by decide) (Below.refl _ _))
    simp only [Act.put, List.setIfInBounds_toArray, List.set_cons_succ, List.set_cons_zero]
    apply Ghost.walk_const (fun γ => by rfl)
    · intro γ L wx h1 h2 hx K hK
      obtain ⟨c0, c1, c2, c3, c4, c5, c6, c7, c8, c9, c10⟩ := HB1.out wx hx.below
      have HK2 := Lib.hid hK
      have HX := Lib.hid hx
      clear hK h1 h2 hx
      go_simp
      exact HK2.out _ (HX.out.next (by decide) (Below.refl _ _))
    simp only [Act.put, List.setIfInBounds_toArray, List.set_cons_succ, List.set_cons_zero]
    apply Ghost.walk_const (fun γ => by rfl)
    · intro γ L wx h1 h2 hx K hK
      obtain ⟨c0, c1, c2, c3, c4, c5, c6, c7, c8, c9, c10⟩ := HB1.out wx hx.below
      have HK2 := Lib.hid hK
      have HX := Lib.hid hx
      clear hK h1 h2 hx
      go_simp
      exact HK2.out _ (HX.out.next (by decide) (Below.refl _ _))
    simp only [Act.put, List.setIfInBounds_toArray, List.set_cons_succ, List.set_cons_zero]
    apply Ghost.walk_const (fun γ => by rfl)
    · intro γ L wx h1 h2 hx K hK
      obtain ⟨c0, c1, c2, c3, c4, c5, c6, c7, c8, c9, c10⟩ := HB1.out wx hx.below
      have HK2 := Lib.hid hK
      have HX := Lib.hid hx
      clear hK h1 h2 hx
      go_simp
      exact HK2.out _ (HX.out.next (by decide) (Below.refl _ _))
    simp only [Act.put, List.setIfInBounds_toArray, List.set_cons_succ, List.set_cons_zero]
    apply Ghost.walk_const (fun γ => by rfl)
    · intro γ L wx h1 h2 hx K hK
      obtain ⟨c0, c1, c2, c3, c4, c5, c6, c7, c8, c9, c10⟩ := HB1.out wx hx.below
      have HK2 := Lib.hid hK
      have HX := Lib.hid hx
      clear hK h1 h2 hx
      go_simp
      exact HK2.out _ (HX.out.next (by decide) (Below.refl _ _))
    simp only [Act.put, List.setIfInBounds_toArray, List.set_cons_succ, List.set_cons_zero]
    apply Ghost.walk_const (fun γ => by rfl)
    · intro γ L wx h1 h2 hx K hK
      obtain ⟨c0, c1, c2, c3, c4, c5, c6, c7, c8, c9, c10⟩ := HB1.out wx hx.below
      have HK2 := Lib.hid hK
      have HX := Lib.hid hx
      clear hK h1 h2 hx
      go_simp
      exact HK2.out _ (HX.out.next (by decide) (Below.refl _ _))
    simp only [Act.put, List.setIfInBounds_toArray, List.set_cons_succ, List.set_cons_zero]
    apply Ghost.walk_const (fun γ => by rfl)
    · intro γ L wx h1 h2 hx K hK
      obtain ⟨c0, c1, c2, c3, c4, c5, c6, c7, c8, c9, c10⟩ := HB1.out wx hx.below
      have HK2 := Lib.hid hK
      have HX := Lib.hid hx
      clear hK h1 h2 hx
      go_simp
      exact HK2.out _ (HX.out.next (by decide) (Below.refl _ _))
    simp only [Act.put, List.setIfInBounds_toArray, List.set_cons_succ, List.set_cons_zero]
    apply Ghost.walk_const (fun γ => by rfl)
    · intro γ L wx h1 h2 hx K hK
      obtain ⟨c0, c1, c2, c3, c4, c5, c6, c7, c8, c9, c10⟩ := HB1.out wx hx.below
      have HK2 := Lib.hid hK
      have HX := Lib.hid hx
      clear hK h1 h2 hx
      go_simp
      exact HK2.out _ (HX.out.next (by decide) (Below.refl _ _))
    simp only [Act.put, List.setIfInBounds_toArray, List.set_cons_succ, List.set_cons_zero]
    apply Ghost.walk_yes (fun b => .slice (some ⟨b, 0, none⟩) 6 6) (fun γ => by rfl)
    · intro γ L wx h1 h2 hx K hK
      obtain ⟨c0, c1, c2, c3, c4, c5, c6, c7, c8, c9, c10⟩ := HB1.out wx hx.below
      have HK2 := Lib.hid hK
      have HX := Lib.hid hx
      clear hK h1 h2 hx
      go_simp
      exact HK2.out wx.heap.size _ HX.out.make
    simp only [Act.put, List.setIfInBounds_toArray, List.set_cons_succ, List.set_cons_zero]
    apply Ghost.walk_const (fun γ => by rfl)
    · intro γ L wx h1 h2 hx K hK
      obtain ⟨c0, c1, c2, c3, c4, c5, c6, c7, c8, c9, c10⟩ := HB1.out wx hx.below
      have HR := Lib.hid (hx.row (h2 25 (by kernel_rfl))).2
      have HK2 := Lib.hid hK
      have HX := Lib.hid hx
      clear hK h1 h2 hx
      go_simp
      go_at_call 34; refine (N2.out _ _ (cell_of_row _ _ 0 _ _ (0, 0) HR.out) (cell_of_row _ _ 1 _ _ (0, 0) HR.out) (cell_of_row _ _ 2 _ _ (0, 0) HR.out) (cell_of_row _ _ 3 _ _ (0, 0) HR.out) (cell_of_row _ _ 4 _ _ (0, 0) HR.out) (cell_of_row _ _ 5 _ _ (0, 0) HR.out)).mono ?_; rintro e w5 ⟨rfl, hb5⟩; exact HK2.out _ (HX.out.next (by decide) hb5)
    simp only [Act.put, List.setIfInBounds_toArray, List.set_cons_succ, List.set_cons_zero]
    apply Ghost.walk_const (fun γ => by rfl)
    · intro γ L wx h1 h2 hx K hK
      obtain ⟨c0, c1, c2, c3, c4, c5, c6, c7, c8, c9, c10⟩ := HB1.out wx hx.below
      have HK2 := Lib.hid hK
      have HX := Lib.hid hx
      clear hK h1 h2 hx
      go_simp
      exact HK2.out _ (HX.out.next (by decide) (Below.refl _ _))
    simp only [Act.put, List.setIfInBounds_toArray, List.set_cons_succ, List.set_cons_zero]
    apply Ghost.walk_const (fun γ => by rfl)
    · intro γ L wx h1 h2 hx K hK
      obtain ⟨c0, c1, c2, c3, c4, c5, c6, c7, c8, c9, c10⟩ := HB1.out wx hx.below
      have HK2 := Lib.hid hK
      have HX := Lib.hid hx
      clear hK h1 h2 hx
      go_simp
      exact HK2.out _ (HX.out.next (by decide) (Below.refl _ _))
    simp only [Act.put, List.setIfInBounds_toArray, List.set_cons_succ, List.set_cons_zero]
    refine Ghost.walk_nil (fun γ L w3 hall hx => ?_)
    clear hall
    generalize γ (0 + 1 + 1 + 1 + 1 + 1 + 1 + 1 + 1 + 1 + 1 + 1 + 1 + 1 + 1 + 1 + 1 + 1 + 1 + 1 + 1 + 1 + 1 + 1 + 1 + 1) = gb
    have HX4 := Lib.hid hx.below
    clear hx
    go_wp2_with fail
    have hb64 := float64bits_run c.load
    refine Bag.region (fun wx => Below w3.heap.size w3 wx) (by kernel_rfl) (by kernel_rfl) (Below.refl _ _).drew ?_
    iterate 5
      (apply Bag.walk_yes (by rfl)
       (intro wx hx K hK
        obtain ⟨c0, c1, c2, c3, c4, c5, c6, c7, c8, c9, c10⟩ := HB1.out wx (HX4.out.trans (hx.mono HX4.out.size))
        have HXX := Lib.hid hx
        clear hx
        go_simp
        go_at_K; exact hK _ HXX.out)
       rfl)
    iterate 1
      (apply Bag.walk_yes (by rfl)
       (intro wx hx K hK
        obtain ⟨c0, c1, c2, c3, c4, c5, c6, c7, c8, c9, c10⟩ := HB1.out wx (HX4.out.trans (hx.mono HX4.out.size))
        have HXX := Lib.hid hx
        clear hx
        go_simp
        go_at_call 32; refine (N3.out _).mono ?_; rintro e w5 ⟨rfl, hb5⟩; exact hK _ (HXX.out.trans (hb5.mono HXX.out.size)))
       rfl)
    iterate 5
      (apply Bag.walk_yes (by rfl)
       (intro wx hx K hK
        obtain ⟨c0, c1, c2, c3, c4, c5, c6, c7, c8, c9, c10⟩ := HB1.out wx (HX4.out.trans (hx.mono HX4.out.size))
        have HXX := Lib.hid hx
        clear hx
        go_simp
        go_at_K; exact hK _ HXX.out)
       rfl)
    iterate 1
      (apply Bag.walk_yes (by rfl)
       (intro wx hx K hK
        obtain ⟨c0, c1, c2, c3, c4, c5, c6, c7, c8, c9, c10⟩ := HB1.out wx (HX4.out.trans (hx.mono HX4.out.size))
        have HXX := Lib.hid hx
        clear hx
        go_simp
        go_at_call 32; refine (N4.out _).mono ?_; rintro e w5 ⟨rfl, hb5⟩; exact hK _ (HXX.out.trans (hb5.mono HXX.out.size)))
       rfl)
    iterate 4
      (apply Bag.walk_yes (by rfl)
       (intro wx hx K hK
        obtain ⟨c0, c1, c2, c3, c4, c5, c6, c7, c8, c9, c10⟩ := HB1.out wx (HX4.out.trans (hx.mono HX4.out.size))
        have HXX := Lib.hid hx
        clear hx
        go_simp
        go_at_K; exact hK _ HXX.out)
       rfl)
    iterate 1
      (apply Bag.walk_yes (by rfl)
       (intro wx hx K hK
        obtain ⟨c0, c1, c2, c3, c4, c5, c6, c7, c8, c9, c10⟩ := HB1.out wx (HX4.out.trans (hx.mono HX4.out.size))
        have HXX := Lib.hid hx
        clear hx
        go_simp
        go_at_call 32; refine (N5.out _).mono ?_; rintro e w5 ⟨rfl, hb5⟩; exact hK _ (HXX.out.trans (hb5.mono HXX.out.size)))
       rfl)
    iterate 4
      (apply Bag.walk_yes (by rfl)
       (intro wx hx K hK
        obtain ⟨c0, c1, c2, c3, c4, c5, c6, c7, c8, c9, c10⟩ := HB1.out wx (HX4.out.trans (hx.mono HX4.out.size))
        have HXX := Lib.hid hx
        clear hx
        go_simp
        go_at_K; exact hK _ HXX.out)
       rfl)
    iterate 1
      (apply Bag.walk_yes (by rfl)
       (intro wx hx K hK
        obtain ⟨c0, c1, c2, c3, c4, c5, c6, c7, c8, c9, c10⟩ := HB1.out wx (HX4.out.trans (hx.mono HX4.out.size))
        have HXX := Lib.hid hx
        clear hx
        go_simp
        go_at_call 32; refine (N6.out _).mono ?_; rintro e w5 ⟨rfl, hb5⟩; exact hK _ (HXX.out.trans (hb5.mono HXX.out.size)))
       rfl)
    iterate 2
      (apply Bag.walk_yes (by rfl)
       (intro wx hx K hK
        obtain ⟨c0, c1, c2, c3, c4, c5, c6, c7, c8, c9, c10⟩ := HB1.out wx (HX4.out.trans (hx.mono HX4.out.size))
        have HXX := Lib.hid hx
        clear hx
        go_simp
        go_at_K; exact hK _ HXX.out)
       rfl)
    refine Bag.walk_nil (fun w4 hx => ?_)
    have HX5 := Lib.hid ((HB1B.out.trans (HX4.out.mono (by omega))).trans (hx.mono (by have := HX4.out.size; omega)))
    clear hx
    rw [HCAT.out]
    go_wp2_with fail
    go_roundw
    case rel => exact ⟨m + 1, by omega, by go_num, rfl, HX5.out⟩
    case measure => simp [intOf]; omega
end

section
open Go.RowKit Frm

theorem numL_one (n : Nat) : numL n 1 = [UInt8.ofNat n] := by
  simp only [numL]
  refine congrArg (fun x => [x]) ?_
  apply UInt8.toNat_inj.1
  simp
theorem inText_ref (x : BldD) (y : In) : sealL (inHd x.cars.length y ++ y.cars.flatMap carB) = inText x y := by
  unfold inText
  rw [inN_wr]
  refine congrArg sealL ?_
  unfold inHd inB' headL
  rw [numL_one 165, numL_one x.cars.length]
  simp only [List.append_assoc, List.cons_append, List.nil_append]
/-- The answer of both. -/
def inRes (x : BldD) (y : In) : Value := if isInB x y = true then .tuple #[.string ⟨(inText x y).toArray⟩, .int .i64 0] else .tuple #[.string ⟨#[]⟩, .int .i64 1]
theorem refIn_res (x : BldD) (A : Option Addr) (cap : Nat) (y : In) (A' : Option Addr) (cp : Nat) (w : World) (hxn : x.cars.length ≤ 1000) (hc : CarsAt w w.heap.size A x.cars) (hn : y.cars.length ≤ 1000) (hy : saneIn y) (hv : CarsV w A' y.cars) :
    Calls Try.prog 12 #[x.agg A cap, inAgg y A' cp] w fun e w' => e = .returned (inRes x y) ∧ Below w.heap.size w w' := by
  unfold inRes
  cases hB : isInB x y
  · rw [if_neg Bool.false_ne_true]
    exact refIn_no x A cap y A' cp w (by omega) hc hn hy hv hB
  · rw [if_pos rfl, ← inText_ref]
    exact refIn_good x A cap y A' cp w hxn hc hn hy hv hB
theorem in_res (x : BldD) (A : Option Addr) (cap : Nat) (y : In) (A' : Option Addr) (cp : Nat) (w : World) (hxn : x.cars.length ≤ 1000) (hc : CarsAt w w.heap.size A x.cars) (hn : y.cars.length ≤ 1000) (hy : saneIn y) (hv : CarsV w A' y.cars) :
    Calls Try.prog 11 #[x.agg A cap, inAgg y A' cp] w fun e w' => e = .returned (inRes x y) ∧ Below w.heap.size w w' := by
  refine (in_any x A cap y A' cp w (by omega) hc hn hy hv).mono ?_
  rintro e w' ⟨hb, ⟨hok, he⟩ | ⟨hok, he⟩⟩
  · refine ⟨?_, hb⟩
    unfold inRes
    rw [if_pos ((isIn_iff x y).2 hok)]
    exact he
  · refine ⟨?_, hb⟩
    unfold inRes
    rw [if_neg (fun h => hok ((isIn_iff x y).1 h))]
    exact he
end

section
open Go.RowKit Frm

set_option maxRecDepth 100000 in
set_option maxHeartbeats 4000000 in
theorem refOut_no (x : BldD) (A : Option Addr) (cap : Nat) (y : Ou) (A' : Option Addr) (cp : Nat) (w : World) (hva : validE x = 0) (hxn : x.cars.length ≤ 140737488355328) (hc : CarsAt w w.heap.size A x.cars) (hn : y.cars.length ≤ 1000) (hy : saneOu y) (hv : CosV w A' y.cars) (hB : isOutB x y = false) :
    Calls Try.prog 17 #[x.agg A cap, ouAgg y A' cp] w fun e w' => e = .returned (.tuple #[.string ⟨#[]⟩, .int .i64 1]) ∧ Below w.heap.size w w' := by
  have F0 := Lib.hid (fun wx (h : Below w.heap.size w wx) => refIsOut_any x A cap y A' cp wx hva hxn ((hc.below h).more h.size) hn hy (hv.below h))
  rw [hB] at F0
  clear hc hv hy hB hva
  obtain ⟨⟨au, ad, su, sd, bad, full, st⟩, ys⟩ := y
  obtain ⟨f, d, r, p, e1, e2, e3, cs⟩ := x
  simp only [BldD.agg, ouAgg] at *
  go_enter Try.func17, Try.ntmps17
  go_wp2_with fail
  obtain ⟨W0, hW0⟩ : ∃ W0, W0 = (w.alloc (.cells #[.int .i64 f, .int .i64 d, .int .i64 r, .int .i64 p, .float .f64 e1, .float .f64 e2, .float .f64 e3, .slice A cs.length cap] 25)).alloc (.cells #[.int .u32 au, .int .u32 ad, .int .u32 su, .int .u32 sd, .bool bad, .bool full, .int .i64 st, .slice A' ys.length cp] 46) := ⟨_, rfl⟩
  rw [← hW0]
  have hs0 : W0.heap.size = w.heap.size + 2 := by rw [hW0]; simp
  have HBW : Hid (Below w.heap.size w W0) := by rw [hW0]; exact ((Below.refl _ _).alloc (Nat.le_refl _) _).alloc (by simp) _
  have HB : Hid (∀ wx, Below W0.heap.size W0 wx → wx.cell? ⟨w.heap.size, 0, none⟩ = some (.int .i64 f) ∧ wx.cell? ⟨w.heap.size, 1, none⟩ = some (.int .i64 d) ∧ wx.cell? ⟨w.heap.size, 2, none⟩ = some (.int .i64 r) ∧ wx.cell? ⟨w.heap.size, 3, none⟩ = some (.int .i64 p) ∧ wx.cell? ⟨w.heap.size, 4, none⟩ = some (.float .f64 e1) ∧ wx.cell? ⟨w.heap.size, 5, none⟩ = some (.float .f64 e2) ∧ wx.cell? ⟨w.heap.size, 6, none⟩ = some (.float .f64 e3) ∧ wx.cell? ⟨w.heap.size, 7, none⟩ = some (.slice A cs.length cap) ∧ wx.cell? ⟨w.heap.size + 1, 0, none⟩ = some (.int .u32 au) ∧ wx.cell? ⟨w.heap.size + 1, 1, none⟩ = some (.int .u32 ad) ∧ wx.cell? ⟨w.heap.size + 1, 2, none⟩ = some (.int .u32 su) ∧ wx.cell? ⟨w.heap.size + 1, 3, none⟩ = some (.int .u32 sd) ∧ wx.cell? ⟨w.heap.size + 1, 4, none⟩ = some (.bool bad) ∧ wx.cell? ⟨w.heap.size + 1, 5, none⟩ = some (.bool full) ∧ wx.cell? ⟨w.heap.size + 1, 6, none⟩ = some (.int .i64 st) ∧ wx.cell? ⟨w.heap.size + 1, 7, none⟩ = some (.slice A' ys.length cp)) := fun wx h => by
    have r0 : wx.heap[w.heap.size]? = some (.cells #[.int .i64 f, .int .i64 d, .int .i64 r, .int .i64 p, .float .f64 e1, .float .f64 e2, .float .f64 e3, .slice A cs.length cap] 25 (0, 0)) := (h.block _ (by omega)).trans (by rw [hW0]; exact (Below.heap_alloc _ _ _ (by simp)).trans (heap_alloc_new w _))
    have r1 : wx.heap[w.heap.size + 1]? = some (.cells #[.int .u32 au, .int .u32 ad, .int .u32 su, .int .u32 sd, .bool bad, .bool full, .int .i64 st, .slice A' ys.length cp] 46 (0, 0)) := (h.block _ (by omega)).trans (by
      rw [hW0]
      have h := heap_alloc_new (w.alloc (.cells #[.int .i64 f, .int .i64 d, .int .i64 r, .int .i64 p, .float .f64 e1, .float .f64 e2, .float .f64 e3, .slice A cs.length cap] 25)) (.cells #[.int .u32 au, .int .u32 ad, .int .u32 su, .int .u32 sd, .bool bad, .bool full, .int .i64 st, .slice A' ys.length cp] 46)
      have e : (w.alloc (.cells #[.int .i64 f, .int .i64 d, .int .i64 r, .int .i64 p, .float .f64 e1, .float .f64 e2, .float .f64 e3, .slice A cs.length cap] 25)).heap.size = w.heap.size + 1 := by simp
      rw [e] at h
      exact h)
    exact ⟨cell_of_row _ _ _ _ _ (0, 0) r0, cell_of_row _ _ _ _ _ (0, 0) r0, cell_of_row _ _ _ _ _ (0, 0) r0, cell_of_row _ _ _ _ _ (0, 0) r0, cell_of_row _ _ _ _ _ (0, 0) r0, cell_of_row _ _ _ _ _ (0, 0) r0, cell_of_row _ _ _ _ _ (0, 0) r0, cell_of_row _ _ _ _ _ (0, 0) r0, cell_of_row _ _ _ _ _ (0, 0) r1, cell_of_row _ _ _ _ _ (0, 0) r1, cell_of_row _ _ _ _ _ (0, 0) r1, cell_of_row _ _ _ _ _ (0, 0) r1, cell_of_row _ _ _ _ _ (0, 0) r1, cell_of_row _ _ _ _ _ (0, 0) r1, cell_of_row _ _ _ _ _ (0, 0) r1, cell_of_row _ _ _ _ _ (0, 0) r1⟩
  clear hW0
  refine (F0.out W0 HBW.out).mono ?_
  rintro e w1 ⟨rfl, hb1⟩
  obtain ⟨a0, a1, a2, a3, a4, a5, a6, a7, a8, a9, a10, a11, a12, a13, a14, a15⟩ := HB.out w1 hb1
  have HX := Lib.hid hb1
  clear hb1
  go_wp2_with fail
  go_ret2
  exact ⟨rfl, HBW.out.trans (HX.out.mono (by omega))⟩

/-- The frame up to its cars. -/
def ouHd (C : Nat) (h : OutH) : List UInt8 := numL 90 1 ++ (numL C 1 ++ ((numL h.au 4 ++ numL h.ad 4) ++ ((numL h.su 4 ++ numL h.sd 4) ++ (numL (flg h.flags) 1 ++ numL (m64 h.st) 2))))

set_option maxRecDepth 100000 in
set_option maxHeartbeats 8000000 in
theorem refOut_good (x : BldD) (A : Option Addr) (cap : Nat) (y : Ou) (A' : Option Addr) (cp : Nat) (w : World) (hva : validE x = 0) (hxn : x.cars.length ≤ 1000) (hc : CarsAt w w.heap.size A x.cars) (hn : y.cars.length ≤ 1000) (hy : saneOu y) (hv : CosV w A' y.cars) (hB : isOutB x y = true) :
    Calls Try.prog 17 #[x.agg A cap, ouAgg y A' cp] w fun e w' => e = .returned (.tuple #[.string ⟨(sealL (ouHd x.cars.length y.h ++ y.cars.flatMap coB)).toArray⟩, .int .i64 0]) ∧ Below w.heap.size w w' := by
  have F0 := Lib.hid (fun wx (h : Below w.heap.size w wx) => refIsOut_any x A cap y A' cp wx hva (by omega) ((hc.below h).more h.size) hn hy (hv.below h))
  rw [hB] at F0
  have HV := Lib.hid hv
  have HSC : Hid (∀ c ∈ y.cars, saneCo c) := hy.2
  obtain ⟨⟨hau, had⟩, ⟨hsu, hsd⟩, -⟩ := hy.1
  have hCw : IntKind.u64.wrap (x.cars.length : Int) = (x.cars.length : Int) := by rw [IntKind.wrap_u64]; omega
  have hsw := m64_wrap y.h.st
  clear hc hv hy hB hva
  obtain ⟨T, hT⟩ : ∃ T, T = ouHd x.cars.length y.h := ⟨_, rfl⟩
  rw [← hT]
  unfold ouHd at hT
  have N1 := Lib.hid (fun wx => refNum_any 90 1 wx (by omega))
  have N2 := Lib.hid (fun wx => refNum_any x.cars.length 1 wx (by omega))
  have N3 := Lib.hid (fun wx => refCalls_any y.h.au y.h.ad wx hau had)
  have N4 := Lib.hid (fun wx => refCalls_any y.h.su y.h.sd wx hsu hsd)
  have N5 := Lib.hid (fun g wx (h0 : wx.cell? ⟨g, 0, none⟩ = some (.bool y.h.bad)) (h1 : wx.cell? ⟨g, 1, none⟩ = some (.bool y.h.full)) => show Calls Try.prog 34 #[.slice (some ⟨g, 0, none⟩) 2 2] wx fun e w' => e = .returned (.string ⟨(numL (flg y.h.flags) 1).toArray⟩) ∧ Below wx.heap.size wx w' from refBits_any y.h.flags g 2 wx (by simp [OutH.flags]) (fun j hj => by
      have hj2 : j < 2 := hj
      match j, hj2 with
      | 0, _ => exact h0
      | 1, _ => exact h1))
  have N6 := Lib.hid (fun wx => refNum_any (m64 y.h.st) 2 wx (by omega))
  have hcat : (((((⟨(numL 90 1).toArray⟩ : ByteArray) ++ (⟨(numL x.cars.length 1).toArray⟩ : ByteArray)) ++ (⟨(numL y.h.au 4 ++ numL y.h.ad 4).toArray⟩ : ByteArray)) ++ (⟨(numL y.h.su 4 ++ numL y.h.sd 4).toArray⟩ : ByteArray)) ++ (⟨(numL (flg y.h.flags) 1).toArray⟩ : ByteArray)) ++ (⟨(numL (m64 y.h.st) 2).toArray⟩ : ByteArray) = ⟨T.toArray⟩ := by
    rw [app_bl, app_bl, app_bl, app_bl, app_bl, hT]
    simp only [bytes_u, List.append_assoc]
  have z1 := str_size (numL 90 1)
  have z2 := str_size (numL x.cars.length 1)
  have z3 := str_size (numL y.h.au 4 ++ numL y.h.ad 4)
  have z4 := str_size (numL y.h.su 4 ++ numL y.h.sd 4)
  have z5 := str_size (numL (flg y.h.flags) 1)
  have z6 := str_size (numL (m64 y.h.st) 2)
  simp only [List.length_append, numL_length] at z1 z2 z3 z4 z5 z6
  have HTL : Hid (T.length = 21) := by rw [hT]; show _ = _; simp only [List.length_append, numL_length]
  clear hT
  generalize (⟨(numL 90 1).toArray⟩ : ByteArray) = B1 at *
  generalize (⟨(numL x.cars.length 1).toArray⟩ : ByteArray) = B2 at *
  generalize (⟨(numL y.h.au 4 ++ numL y.h.ad 4).toArray⟩ : ByteArray) = B3 at *
  generalize (⟨(numL y.h.su 4 ++ numL y.h.sd 4).toArray⟩ : ByteArray) = B4 at *
  generalize (⟨(numL (flg y.h.flags) 1).toArray⟩ : ByteArray) = B5 at *
  generalize (⟨(numL (m64 y.h.st) 2).toArray⟩ : ByteArray) = B6 at *
  have HCAT := Lib.hid hcat
  clear hcat
  obtain ⟨⟨au, ad, su, sd, bad, full, st⟩, ys⟩ := y
  obtain ⟨f, d, r, p, e1, e2, e3, cs⟩ := x
  simp only [BldD.agg, ouAgg] at *
  generalize m64 st = ms at *
  go_enter Try.func17, Try.ntmps17
  go_wp2_with fail
  obtain ⟨W0, hW0⟩ : ∃ W0, W0 = (w.alloc (.cells #[.int .i64 f, .int .i64 d, .int .i64 r, .int .i64 p, .float .f64 e1, .float .f64 e2, .float .f64 e3, .slice A cs.length cap] 25)).alloc (.cells #[.int .u32 au, .int .u32 ad, .int .u32 su, .int .u32 sd, .bool bad, .bool full, .int .i64 st, .slice A' ys.length cp] 46) := ⟨_, rfl⟩
  rw [← hW0]
  have hs0 : W0.heap.size = w.heap.size + 2 := by rw [hW0]; simp
  have HBW : Hid (Below w.heap.size w W0) := by rw [hW0]; exact ((Below.refl _ _).alloc (Nat.le_refl _) _).alloc (by simp) _
  have HB : Hid (∀ wx, Below W0.heap.size W0 wx → wx.cell? ⟨w.heap.size, 0, none⟩ = some (.int .i64 f) ∧ wx.cell? ⟨w.heap.size, 1, none⟩ = some (.int .i64 d) ∧ wx.cell? ⟨w.heap.size, 2, none⟩ = some (.int .i64 r) ∧ wx.cell? ⟨w.heap.size, 3, none⟩ = some (.int .i64 p) ∧ wx.cell? ⟨w.heap.size, 4, none⟩ = some (.float .f64 e1) ∧ wx.cell? ⟨w.heap.size, 5, none⟩ = some (.float .f64 e2) ∧ wx.cell? ⟨w.heap.size, 6, none⟩ = some (.float .f64 e3) ∧ wx.cell? ⟨w.heap.size, 7, none⟩ = some (.slice A cs.length cap) ∧ wx.cell? ⟨w.heap.size + 1, 0, none⟩ = some (.int .u32 au) ∧ wx.cell? ⟨w.heap.size + 1, 1, none⟩ = some (.int .u32 ad) ∧ wx.cell? ⟨w.heap.size + 1, 2, none⟩ = some (.int .u32 su) ∧ wx.cell? ⟨w.heap.size + 1, 3, none⟩ = some (.int .u32 sd) ∧ wx.cell? ⟨w.heap.size + 1, 4, none⟩ = some (.bool bad) ∧ wx.cell? ⟨w.heap.size + 1, 5, none⟩ = some (.bool full) ∧ wx.cell? ⟨w.heap.size + 1, 6, none⟩ = some (.int .i64 st) ∧ wx.cell? ⟨w.heap.size + 1, 7, none⟩ = some (.slice A' ys.length cp)) := fun wx h => by
    have r0 : wx.heap[w.heap.size]? = some (.cells #[.int .i64 f, .int .i64 d, .int .i64 r, .int .i64 p, .float .f64 e1, .float .f64 e2, .float .f64 e3, .slice A cs.length cap] 25 (0, 0)) := (h.block _ (by omega)).trans (by rw [hW0]; exact (Below.heap_alloc _ _ _ (by simp)).trans (heap_alloc_new w _))
    have r1 : wx.heap[w.heap.size + 1]? = some (.cells #[.int .u32 au, .int .u32 ad, .int .u32 su, .int .u32 sd, .bool bad, .bool full, .int .i64 st, .slice A' ys.length cp] 46 (0, 0)) := (h.block _ (by omega)).trans (by
      rw [hW0]
      have h := heap_alloc_new (w.alloc (.cells #[.int .i64 f, .int .i64 d, .int .i64 r, .int .i64 p, .float .f64 e1, .float .f64 e2, .float .f64 e3, .slice A cs.length cap] 25)) (.cells #[.int .u32 au, .int .u32 ad, .int .u32 su, .int .u32 sd, .bool bad, .bool full, .int .i64 st, .slice A' ys.length cp] 46)
      have e : (w.alloc (.cells #[.int .i64 f, .int .i64 d, .int .i64 r, .int .i64 p, .float .f64 e1, .float .f64 e2, .float .f64 e3, .slice A cs.length cap] 25)).heap.size = w.heap.size + 1 := by simp
      rw [e] at h
      exact h)
    exact ⟨cell_of_row _ _ _ _ _ (0, 0) r0, cell_of_row _ _ _ _ _ (0, 0) r0, cell_of_row _ _ _ _ _ (0, 0) r0, cell_of_row _ _ _ _ _ (0, 0) r0, cell_of_row _ _ _ _ _ (0, 0) r0, cell_of_row _ _ _ _ _ (0, 0) r0, cell_of_row _ _ _ _ _ (0, 0) r0, cell_of_row _ _ _ _ _ (0, 0) r0, cell_of_row _ _ _ _ _ (0, 0) r1, cell_of_row _ _ _ _ _ (0, 0) r1, cell_of_row _ _ _ _ _ (0, 0) r1, cell_of_row _ _ _ _ _ (0, 0) r1, cell_of_row _ _ _ _ _ (0, 0) r1, cell_of_row _ _ _ _ _ (0, 0) r1, cell_of_row _ _ _ _ _ (0, 0) r1, cell_of_row _ _ _ _ _ (0, 0) r1⟩
  clear hW0
  refine (F0.out W0 HBW.out).mono ?_
  rintro e w1 ⟨rfl, hb1⟩
  obtain ⟨a0, a1, a2, a3, a4, a5, a6, a7, a8, a9, a10, a11, a12, a13, a14, a15⟩ := HB.out w1 hb1
  have HX := Lib.hid hb1
  clear hb1
  go_wp2_with fail
  clear a0 a1 a2 a3 a4 a5 a6 a7 a8 a9 a10 a11 a12 a13 a14 a15
  have HB2 : Hid (∀ wx, Below w1.heap.size w1 wx → wx.cell? ⟨w.heap.size, 0, none⟩ = some (.int .i64 f) ∧ wx.cell? ⟨w.heap.size, 1, none⟩ = some (.int .i64 d) ∧ wx.cell? ⟨w.heap.size, 2, none⟩ = some (.int .i64 r) ∧ wx.cell? ⟨w.heap.size, 3, none⟩ = some (.int .i64 p) ∧ wx.cell? ⟨w.heap.size, 4, none⟩ = some (.float .f64 e1) ∧ wx.cell? ⟨w.heap.size, 5, none⟩ = some (.float .f64 e2) ∧ wx.cell? ⟨w.heap.size, 6, none⟩ = some (.float .f64 e3) ∧ wx.cell? ⟨w.heap.size, 7, none⟩ = some (.slice A cs.length cap) ∧ wx.cell? ⟨w.heap.size + 1, 0, none⟩ = some (.int .u32 au) ∧ wx.cell? ⟨w.heap.size + 1, 1, none⟩ = some (.int .u32 ad) ∧ wx.cell? ⟨w.heap.size + 1, 2, none⟩ = some (.int .u32 su) ∧ wx.cell? ⟨w.heap.size + 1, 3, none⟩ = some (.int .u32 sd) ∧ wx.cell? ⟨w.heap.size + 1, 4, none⟩ = some (.bool bad) ∧ wx.cell? ⟨w.heap.size + 1, 5, none⟩ = some (.bool full) ∧ wx.cell? ⟨w.heap.size + 1, 6, none⟩ = some (.int .i64 st) ∧ wx.cell? ⟨w.heap.size + 1, 7, none⟩ = some (.slice A' ys.length cp)) := fun wx h => HB.out wx (HX.out.trans (h.mono HX.out.size))
  refine Ghost.ghost (fun γ L wx => Ghost.Made w1 19 (.cells #[.bool bad, .bool full] 4 (0, 0)) γ L wx) (by kernel_rfl) (by kernel_rfl) (fun γ => ⟨(Below.refl _ _).drew, fun h => absurd h Bool.false_ne_true⟩) ?_
  apply Ghost.walk_const (fun γ => by rfl)
  · intro γ L wx h1 h2 hx K hK
    obtain ⟨a0, a1, a2, a3, a4, a5, a6, a7, a8, a9, a10, a11, a12, a13, a14, a15⟩ := HB2.out wx hx.below
    have HK2 := Lib.hid hK
    have HX := Lib.hid hx
    clear hK h1 h2 hx
    go_simp
    go_at_call 32; refine (N1.out _).mono ?_; rintro e w5 ⟨rfl, hb5⟩; exact HK2.out _ (HX.out.next (by decide) hb5)
  simp only [Act.put, List.setIfInBounds_toArray, List.set_cons_succ, List.set_cons_zero]
  apply Ghost.walk_const (fun γ => by rfl)
  · intro γ L wx h1 h2 hx K hK
    obtain ⟨a0, a1, a2, a3, a4, a5, a6, a7, a8, a9, a10, a11, a12, a13, a14, a15⟩ := HB2.out wx hx.below
    have HK2 := Lib.hid hK
    have HX := Lib.hid hx
    clear hK h1 h2 hx
    go_simp
    exact HK2.out _ (HX.out.next (by decide) (Below.refl _ _))
  simp only [Act.put, List.setIfInBounds_toArray, List.set_cons_succ, List.set_cons_zero]
  apply Ghost.walk_const (fun γ => by rfl)
  · intro γ L wx h1 h2 hx K hK
    obtain ⟨a0, a1, a2, a3, a4, a5, a6, a7, a8, a9, a10, a11, a12, a13, a14, a15⟩ := HB2.out wx hx.below
    have HK2 := Lib.hid hK
    have HX := Lib.hid hx
    clear hK h1 h2 hx
    go_simp
    exact HK2.out _ (HX.out.next (by decide) (Below.refl _ _))
  simp only [Act.put, List.setIfInBounds_toArray, List.set_cons_succ, List.set_cons_zero]
  apply Ghost.walk_const (fun γ => by rfl)
  · intro γ L wx h1 h2 hx K hK
    obtain ⟨a0, a1, a2, a3, a4, a5, a6, a7, a8, a9, a10, a11, a12, a13, a14, a15⟩ := HB2.out wx hx.below
    have HK2 := Lib.hid hK
    have HX := Lib.hid hx
    clear hK h1 h2 hx
    go_simp
    exact HK2.out _ (HX.out.next (by decide) (Below.refl _ _))
  simp only [Act.put, List.setIfInBounds_toArray, List.set_cons_succ, List.set_cons_zero]
  apply Ghost.walk_const (fun γ => by rfl)
  · intro γ L wx h1 h2 hx K hK
    obtain ⟨a0, a1, a2, a3, a4, a5, a6, a7, a8, a9, a10, a11, a12, a13, a14, a15⟩ := HB2.out wx hx.below
    have HK2 := Lib.hid hK
    have HX := Lib.hid hx
    clear hK h1 h2 hx
    go_simp
    exact HK2.out _ (HX.out.next (by decide) (Below.refl _ _))
  simp only [Act.put, List.setIfInBounds_toArray, List.set_cons_succ, List.set_cons_zero]
  apply Ghost.walk_const (fun γ => by rfl)
  · intro γ L wx h1 h2 hx K hK
    obtain ⟨a0, a1, a2, a3, a4, a5, a6, a7, a8, a9, a10, a11, a12, a13, a14, a15⟩ := HB2.out wx hx.below
    have HK2 := Lib.hid hK
    have HX := Lib.hid hx
    clear hK h1 h2 hx
    go_simp
    go_at_call 32; refine (N2.out _).mono ?_; rintro e w5 ⟨rfl, hb5⟩; exact HK2.out _ (HX.out.next (by decide) hb5)
  simp only [Act.put, List.setIfInBounds_toArray, List.set_cons_succ, List.set_cons_zero]
  apply Ghost.walk_const (fun γ => by rfl)
  · intro γ L wx h1 h2 hx K hK
    obtain ⟨a0, a1, a2, a3, a4, a5, a6, a7, a8, a9, a10, a11, a12, a13, a14, a15⟩ := HB2.out wx hx.below
    have HK2 := Lib.hid hK
    have HX := Lib.hid hx
    clear hK h1 h2 hx
    go_simp
    exact HK2.out _ (HX.out.next (by decide) (Below.refl _ _))
  simp only [Act.put, List.setIfInBounds_toArray, List.set_cons_succ, List.set_cons_zero]
  apply Ghost.walk_const (fun γ => by rfl)
  · intro γ L wx h1 h2 hx K hK
    obtain ⟨a0, a1, a2, a3, a4, a5, a6, a7, a8, a9, a10, a11, a12, a13, a14, a15⟩ := HB2.out wx hx.below
    have HK2 := Lib.hid hK
    have HX := Lib.hid hx
    clear hK h1 h2 hx
    go_simp
    exact HK2.out _ (HX.out.next (by decide) (Below.refl _ _))
  simp only [Act.put, List.setIfInBounds_toArray, List.set_cons_succ, List.set_cons_zero]
  apply Ghost.walk_const (fun γ => by rfl)
  · intro γ L wx h1 h2 hx K hK
    obtain ⟨a0, a1, a2, a3, a4, a5, a6, a7, a8, a9, a10, a11, a12, a13, a14, a15⟩ := HB2.out wx hx.below
    have HK2 := Lib.hid hK
    have HX := Lib.hid hx
    clear hK h1 h2 hx
    go_simp
    exact HK2.out _ (HX.out.next (by decide) (Below.refl _ _))
  simp only [Act.put, List.setIfInBounds_toArray, List.set_cons_succ, List.set_cons_zero]
  apply Ghost.walk_const (fun γ => by rfl)
  · intro γ L wx h1 h2 hx K hK
    obtain ⟨a0, a1, a2, a3, a4, a5, a6, a7, a8, a9, a10, a11, a12, a13, a14, a15⟩ := HB2.out wx hx.below
    have HK2 := Lib.hid hK
    have HX := Lib.hid hx
    clear hK h1 h2 hx
    go_simp
    go_at_call 33; refine (N3.out _).mono ?_; rintro e w5 ⟨rfl, hb5⟩; exact HK2.out _ (HX.out.next (by decide) hb5)
  simp only [Act.put, List.setIfInBounds_toArray, List.set_cons_succ, List.set_cons_zero]
  apply Ghost.walk_const (fun γ => by rfl)
  · intro γ L wx h1 h2 hx K hK
    obtain ⟨a0, a1, a2, a3, a4, a5, a6, a7, a8, a9, a10, a11, a12, a13, a14, a15⟩ := HB2.out wx hx.below
    have HK2 := Lib.hid hK
    have HX := Lib.hid hx
    clear hK h1 h2 hx
    go_simp
    exact HK2.out _ (HX.out.next (by decide) (Below.refl _ _))
  simp only [Act.put, List.setIfInBounds_toArray, List.set_cons_succ, List.set_cons_zero]
  apply Ghost.walk_const (fun γ => by rfl)
  · intro γ L wx h1 h2 hx K hK
    obtain ⟨a0, a1, a2, a3, a4, a5, a6, a7, a8, a9, a10, a11, a12, a13, a14, a15⟩ := HB2.out wx hx.below
    have HK2 := Lib.hid hK
    have HX := Lib.hid hx
    clear hK h1 h2 hx
    go_simp
    exact HK2.out _ (HX.out.next (by decide) (Below.refl _ _))
  simp only [Act.put, List.setIfInBounds_toArray, List.set_cons_succ, List.set_cons_zero]
  apply Ghost.walk_const (fun γ => by rfl)
  · intro γ L wx h1 h2 hx K hK
    obtain ⟨a0, a1, a2, a3, a4, a5, a6, a7, a8, a9, a10, a11, a12, a13, a14, a15⟩ := HB2.out wx hx.below
    have HK2 := Lib.hid hK
    have HX := Lib.hid hx
    clear hK h1 h2 hx
    go_simp
    exact HK2.out _ (HX.out.next (by decide) (Below.refl _ _))
  simp only [Act.put, List.setIfInBounds_toArray, List.set_cons_succ, List.set_cons_zero]
  apply Ghost.walk_const (fun γ => by rfl)
  · intro γ L wx h1 h2 hx K hK
    obtain ⟨a0, a1, a2, a3, a4, a5, a6, a7, a8, a9, a10, a11, a12, a13, a14, a15⟩ := HB2.out wx hx.below
    have HK2 := Lib.hid hK
    have HX := Lib.hid hx
    clear hK h1 h2 hx
    go_simp
    go_at_call 33; refine (N4.out _).mono ?_; rintro e w5 ⟨rfl, hb5⟩; exact HK2.out _ (HX.out.next (by decide) hb5)
  simp only [Act.put, List.setIfInBounds_toArray, List.set_cons_succ, List.set_cons_zero]
  apply Ghost.walk_const (fun γ => by rfl)
  · intro γ L wx h1 h2 hx K hK
    obtain ⟨a0, a1, a2, a3, a4, a5, a6, a7, a8, a9, a10, a11, a12, a13, a14, a15⟩ := HB2.out wx hx.below
    have HK2 := Lib.hid hK
    have HX := Lib.hid hx
    clear hK h1 h2 hx
    go_simp
    exact HK2.out _ (HX.out.next (by decide) (Below.refl _ _))
  simp only [Act.put, List.setIfInBounds_toArray, List.set_cons_succ, List.set_cons_zero]
  apply Ghost.walk_const (fun γ => by rfl)
  · intro γ L wx h1 h2 hx K hK
    obtain ⟨a0, a1, a2, a3, a4, a5, a6, a7, a8, a9, a10, a11, a12, a13, a14, a15⟩ := HB2.out wx hx.below
    have HK2 := Lib.hid hK
    have HX := Lib.hid hx
    clear hK h1 h2 hx
    go_simp
    exact HK2.out _ (HX.out.next (by decide) (Below.refl _ _))
  simp only [Act.put, List.setIfInBounds_toArray, List.set_cons_succ, List.set_cons_zero]
  apply Ghost.walk_const (fun γ => by rfl)
  · intro γ L wx h1 h2 hx K hK
    obtain ⟨a0, a1, a2, a3, a4, a5, a6, a7, a8, a9, a10, a11, a12, a13, a14, a15⟩ := HB2.out wx hx.below
    have HK2 := Lib.hid hK
    have HX := Lib.hid hx
    clear hK h1 h2 hx
    go_simp
    exact HK2.out _ (HX.out.next (by decide) (Below.refl _ _))
  simp only [Act.put, List.setIfInBounds_toArray, List.set_cons_succ, List.set_cons_zero]
  apply Ghost.walk_const (fun γ => by rfl)
  · intro γ L wx h1 h2 hx K hK
    obtain ⟨a0, a1, a2, a3, a4, a5, a6, a7, a8, a9, a10, a11, a12, a13, a14, a15⟩ := HB2.out wx hx.below
    have HK2 := Lib.hid hK
    have HX := Lib.hid hx
    clear hK h1 h2 hx
    go_simp
    exact HK2.out _ (HX.out.next (by decide) (Below.refl _ _))
  simp only [Act.put, List.setIfInBounds_toArray, List.set_cons_succ, List.set_cons_zero]
  apply Ghost.walk_const (fun γ => by rfl)
  · intro γ L wx h1 h2 hx K hK
    obtain ⟨a0, a1, a2, a3, a4, a5, a6, a7, a8, a9, a10, a11, a12, a13, a14, a15⟩ := HB2.out wx hx.below
    have HK2 := Lib.hid hK
    have HX := Lib.hid hx
    clear hK h1 h2 hx
    go_simp
    exact HK2.out _ (HX.out.next (by decide) (Below.refl _ _))
  simp only [Act.put, List.setIfInBounds_toArray, List.set_cons_succ, List.set_cons_zero]
  apply Ghost.walk_yes (fun b => .slice (some ⟨b, 0, none⟩) 2 2) (fun γ => by rfl)
  · intro γ L wx h1 h2 hx K hK
    obtain ⟨a0, a1, a2, a3, a4, a5, a6, a7, a8, a9, a10, a11, a12, a13, a14, a15⟩ := HB2.out wx hx.below
    have HK2 := Lib.hid hK
    have HX := Lib.hid hx
    clear hK h1 h2 hx
    go_simp
    exact HK2.out wx.heap.size _ HX.out.make
  simp only [Act.put, List.setIfInBounds_toArray, List.set_cons_succ, List.set_cons_zero]
  apply Ghost.walk_const (fun γ => by rfl)
  · intro γ L wx h1 h2 hx K hK
    obtain ⟨a0, a1, a2, a3, a4, a5, a6, a7, a8, a9, a10, a11, a12, a13, a14, a15⟩ := HB2.out wx hx.below
    have HR := Lib.hid (hx.row (h2 19 (by kernel_rfl))).2
    have HK2 := Lib.hid hK
    have HX := Lib.hid hx
    clear hK h1 h2 hx
    go_simp
    go_at_call 34; refine (N5.out _ _ (cell_of_row _ _ 0 _ _ (0, 0) HR.out) (cell_of_row _ _ 1 _ _ (0, 0) HR.out)).mono ?_; rintro e w5 ⟨rfl, hb5⟩; exact HK2.out _ (HX.out.next (by decide) hb5)
  simp only [Act.put, List.setIfInBounds_toArray, List.set_cons_succ, List.set_cons_zero]
  apply Ghost.walk_const (fun γ => by rfl)
  · intro γ L wx h1 h2 hx K hK
    obtain ⟨a0, a1, a2, a3, a4, a5, a6, a7, a8, a9, a10, a11, a12, a13, a14, a15⟩ := HB2.out wx hx.below
    have HK2 := Lib.hid hK
    have HX := Lib.hid hx
    clear hK h1 h2 hx
    go_simp
    exact HK2.out _ (HX.out.next (by decide) (Below.refl _ _))
  simp only [Act.put, List.setIfInBounds_toArray, List.set_cons_succ, List.set_cons_zero]
  apply Ghost.walk_const (fun γ => by rfl)
  · intro γ L wx h1 h2 hx K hK
    obtain ⟨a0, a1, a2, a3, a4, a5, a6, a7, a8, a9, a10, a11, a12, a13, a14, a15⟩ := HB2.out wx hx.below
    have HK2 := Lib.hid hK
    have HX := Lib.hid hx
    clear hK h1 h2 hx
    go_simp
    exact HK2.out _ (HX.out.next (by decide) (Below.refl _ _))
  simp only [Act.put, List.setIfInBounds_toArray, List.set_cons_succ, List.set_cons_zero]
  apply Ghost.walk_const (fun γ => by rfl)
  · intro γ L wx h1 h2 hx K hK
    obtain ⟨a0, a1, a2, a3, a4, a5, a6, a7, a8, a9, a10, a11, a12, a13, a14, a15⟩ := HB2.out wx hx.below
    have HK2 := Lib.hid hK
    have HX := Lib.hid hx
    clear hK h1 h2 hx
    go_simp
    exact HK2.out _ (HX.out.next (by decide) (Below.refl _ _))
  simp only [Act.put, List.setIfInBounds_toArray, List.set_cons_succ, List.set_cons_zero]
  apply Ghost.walk_const (fun γ => by rfl)
  · intro γ L wx h1 h2 hx K hK
    obtain ⟨a0, a1, a2, a3, a4, a5, a6, a7, a8, a9, a10, a11, a12, a13, a14, a15⟩ := HB2.out wx hx.below
    have HK2 := Lib.hid hK
    have HX := Lib.hid hx
    clear hK h1 h2 hx
    go_simp
    exact HK2.out _ (HX.out.next (by decide) (Below.refl _ _))
  simp only [Act.put, List.setIfInBounds_toArray, List.set_cons_succ, List.set_cons_zero]
  apply Ghost.walk_const (fun γ => by rfl)
  · intro γ L wx h1 h2 hx K hK
    obtain ⟨a0, a1, a2, a3, a4, a5, a6, a7, a8, a9, a10, a11, a12, a13, a14, a15⟩ := HB2.out wx hx.below
    have HK2 := Lib.hid hK
    have HX := Lib.hid hx
    clear hK h1 h2 hx
    go_simp
    go_at_call 32; refine (N6.out _).mono ?_; rintro e w5 ⟨rfl, hb5⟩; exact HK2.out _ (HX.out.next (by decide) hb5)
  simp only [Act.put, List.setIfInBounds_toArray, List.set_cons_succ, List.set_cons_zero]
  apply Ghost.walk_const (fun γ => by rfl)
  · intro γ L wx h1 h2 hx K hK
    obtain ⟨a0, a1, a2, a3, a4, a5, a6, a7, a8, a9, a10, a11, a12, a13, a14, a15⟩ := HB2.out wx hx.below
    have HK2 := Lib.hid hK
    have HX := Lib.hid hx
    clear hK h1 h2 hx
    go_simp
    exact HK2.out _ (HX.out.next (by decide) (Below.refl _ _))
  simp only [Act.put, List.setIfInBounds_toArray, List.set_cons_succ, List.set_cons_zero]
  apply Ghost.walk_const (fun γ => by rfl)
  · intro γ L wx h1 h2 hx K hK
    obtain ⟨a0, a1, a2, a3, a4, a5, a6, a7, a8, a9, a10, a11, a12, a13, a14, a15⟩ := HB2.out wx hx.below
    have HK2 := Lib.hid hK
    have HX := Lib.hid hx
    clear hK h1 h2 hx
    go_simp
    exact HK2.out _ (HX.out.next (by decide) (Below.refl _ _))
  simp only [Act.put, List.setIfInBounds_toArray, List.set_cons_succ, List.set_cons_zero]
  refine Ghost.walk_nil (fun γ L w3 hall hx => ?_)
  clear hall
  have HX3 := Lib.hid (HX.out.trans (hx.below.mono HX.out.size))
  clear hx
  rw [HCAT.out]
  clear N1 N2 N3 N4 N5 N6 HCAT z1 z2 z3 z4 z5 z6 HB2
  generalize γ _ = gb0
  go_wp2_with fail
  go_loopw [6, 7] (fun v6 v7 wr => ∃ m : Nat, m ≤ ys.length ∧ v7 = .int .i64 m ∧ v6 = .string ⟨(T ++ (ys.take m).flatMap coB).toArray⟩ ∧ Below W0.heap.size W0 wr) (fun _ v _ => ys.length - (intOf v).toNat)
  case atStart => exact ⟨0, Nat.zero_le _, rfl, by simp, HX3.out⟩
  case round =>
    obtain ⟨m, hm, rfl, rfl, hbr⟩ := hrel
    have hs0r : W0.heap.size ≤ wr.heap.size := hbr.size
    obtain ⟨a0, a1, a2, a3, a4, a5, a6, a7, a8, a9, a10, a11, a12, a13, a14, a15⟩ := HB.out wr hbr
    have HBR := Lib.hid hbr
    clear hbr
    rcases Nat.lt_or_ge m ys.length with hlt | hge
    case inr =>
      obtain rfl : m = ys.length := by omega
      rw [List.take_length]
      have hz : (⟨(T ++ ys.flatMap coB).toArray⟩ : ByteArray).size ≤ 1000000 := by
        rw [str_size, List.length_append, HTL.out, flat_length coB_length]; omega
      have hbl : Hid (bl ⟨(T ++ ys.flatMap coB).toArray⟩ = T ++ ys.flatMap coB) := by
        show _ = _
        unfold bl; rfl
      generalize (⟨(T ++ ys.flatMap coB).toArray⟩ : ByteArray) = S at *
      have SEAL := Lib.hid (fun wx => refSeal_any S wx hz)
      rw [hbl.out] at SEAL
      clear hz hbl
      go_wp2_with fail
      refine (SEAL.out _).mono ?_
      rintro e w5 ⟨rfl, hb5⟩
      have HX5 := Lib.hid ((HBW.out.trans (HBR.out.mono (by omega))).trans (hb5.mono (by have := HBR.out.size; have := HBW.out.size; omega)))
      clear hb5
      go_wp2_with fail
      go_ret2
      exact ⟨rfl, HX5.out⟩
    have hbwr := HBW.out.trans (HBR.out.mono (by omega))
    rcases HV.out.below hbwr with h0 | ⟨b, off, rfl, hv⟩
    · subst h0; simp at hlt
    have g := hv m hlt
    have hsc := HSC.out ys[m] (List.getElem_mem hlt)
    have hnx : (ys.take (m + 1)).flatMap coB = (ys.take m).flatMap coB ++ coB ys[m] := by
      rw [List.take_succ_eq_append_getElem hlt, List.flatMap_append]; simp
    have hfl : ((ys.take m).flatMap coB).length = m * 19 := by rw [flat_length coB_length, List.length_take, Nat.min_eq_left (by omega)]
    clear hbwr hv
    generalize ys[m] = c at g hsc hnx
    have hzs : (⟨(T ++ (ys.take m).flatMap coB).toArray⟩ : ByteArray).size = 21 + m * 19 := by rw [str_size, List.length_append, HTL.out, hfl]
    have hcat : ((((((⟨(T ++ (ys.take m).flatMap coB).toArray⟩ : ByteArray) ++ (⟨(numL c.iu 4 ++ numL c.id 4).toArray⟩ : ByteArray)) ++ (⟨(numL c.lu 4 ++ numL c.ld 4).toArray⟩ : ByteArray)) ++ (⟨(numL (flg c.flags) 1).toArray⟩ : ByteArray)) ++ (⟨(numL (m64 c.cmd) 1).toArray⟩ : ByteArray)) ++ (⟨(numL (m64 c.ph) 1).toArray⟩ : ByteArray)) = ⟨(T ++ (ys.take (m + 1)).flatMap coB).toArray⟩ := by
      rw [app_bl, app_bl, app_bl, app_bl, app_bl, hnx]
      simp only [bytes_u, List.append_assoc, coB]
    have N1 := Lib.hid (fun wx => refCalls_any c.iu c.id wx hsc.1.1 hsc.1.2)
    have N2 := Lib.hid (fun wx => refCalls_any c.lu c.ld wx hsc.2.1.1 hsc.2.1.2)
    have N3 := Lib.hid (fun g wx (h0 : wx.cell? ⟨g, 0, none⟩ = some (.bool c.cut)) (h1 : wx.cell? ⟨g, 1, none⟩ = some (.bool c.gong)) (h2 : wx.cell? ⟨g, 2, none⟩ = some (.bool c.flag)) => show Calls Try.prog 34 #[.slice (some ⟨g, 0, none⟩) 3 3] wx fun e w' => e = .returned (.string ⟨(numL (flg c.flags) 1).toArray⟩) ∧ Below wx.heap.size wx w' from refBits_any c.flags g 3 wx (by simp [CarOut.flags]) (fun j hj => by
      have hj3 : j < 3 := hj
      match j, hj3 with
      | 0, _ => exact h0
      | 1, _ => exact h1
      | 2, _ => exact h2))
    have N4 := Lib.hid (fun wx => refNum_any (m64 c.cmd) 1 wx (by omega))
    have N5 := Lib.hid (fun wx => refNum_any (m64 c.ph) 1 wx (by omega))
    have z1 := str_size (numL c.iu 4 ++ numL c.id 4)
    have z2 := str_size (numL c.lu 4 ++ numL c.ld 4)
    have z3 := str_size (numL (flg c.flags) 1)
    have z4 := str_size (numL (m64 c.cmd) 1)
    have z5 := str_size (numL (m64 c.ph) 1)
    simp only [List.length_append, numL_length] at z1 z2 z3 z4 z5
    generalize (⟨(T ++ (ys.take m).flatMap coB).toArray⟩ : ByteArray) = S at *
    generalize (⟨(numL c.iu 4 ++ numL c.id 4).toArray⟩ : ByteArray) = B1 at *
    generalize (⟨(numL c.lu 4 ++ numL c.ld 4).toArray⟩ : ByteArray) = B2 at *
    generalize (⟨(numL (flg c.flags) 1).toArray⟩ : ByteArray) = B3 at *
    generalize (⟨(numL (m64 c.cmd) 1).toArray⟩ : ByteArray) = B4 at *
    generalize (⟨(numL (m64 c.ph) 1).toArray⟩ : ByteArray) = B5 at *
    have HCAT := Lib.hid hcat
    have no1 : ¬ 9223372036854775807 < 21 + m * 19 + 8 := by omega
    have no2 : ¬ 9223372036854775807 < 21 + m * 19 + 8 + 8 := by omega
    have no3 : ¬ 9223372036854775807 < 21 + m * 19 + 8 + 8 + 1 := by omega
    have no4 : ¬ 9223372036854775807 < 21 + m * 19 + 8 + 8 + 1 + 1 := by omega
    have no5 : ¬ 9223372036854775807 < 21 + m * 19 + 8 + 8 + 1 + 1 + 1 := by omega
    have no1' : ¬ 9223372036854775807 < 21 + m * 19 + (4 + 4) := by omega
    have no2' : ¬ 9223372036854775807 < 21 + m * 19 + (4 + 4) + (4 + 4) := by omega
    have hfw := m64_wrap c.cmd
    have hdw := m64_wrap c.ph
    clear hcat hnx hfl
    have g0 : wr.cell? ⟨b, off + m * 9, none⟩ = some (.int .u32 c.iu) := g 0 _ rfl
    have g1 : wr.cell? ⟨b, off + m * 9 + 1, none⟩ = some (.int .u32 c.id) := g 1 _ rfl
    have g2 : wr.cell? ⟨b, off + m * 9 + 2, none⟩ = some (.bool c.cut) := g 2 _ rfl
    have g3 : wr.cell? ⟨b, off + m * 9 + 3, none⟩ = some (.int .u32 c.lu) := g 3 _ rfl
    have g4 : wr.cell? ⟨b, off + m * 9 + 4, none⟩ = some (.int .u32 c.ld) := g 4 _ rfl
    have g5 : wr.cell? ⟨b, off + m * 9 + 5, none⟩ = some (.bool c.gong) := g 5 _ rfl
    have g6 : wr.cell? ⟨b, off + m * 9 + 6, none⟩ = some (.int .i64 c.cmd) := g 6 _ rfl
    have g7 : wr.cell? ⟨b, off + m * 9 + 7, none⟩ = some (.int .i64 c.ph) := g 7 _ rfl
    have g8 : wr.cell? ⟨b, off + m * 9 + 8, none⟩ = some (.bool c.flag) := g 8 _ rfl
    have hbl : b < wr.heap.size := World.block_lt_of_cell? wr _ g0
    clear g
    go_wp2_with fail
    obtain ⟨W1, hW1⟩ : ∃ W1, W1 = wr.alloc (.cells #[.int .u32 c.iu, .int .u32 c.id, .bool c.cut, .int .u32 c.lu, .int .u32 c.ld, .bool c.gong, .int .i64 c.cmd, .int .i64 c.ph, .bool c.flag] 93) := ⟨_, rfl⟩
    rw [← hW1]
    have hs1 : W1.heap.size = wr.heap.size + 1 := by rw [hW1]; simp
    have HB1B : Hid (Below W0.heap.size W0 W1) := by rw [hW1]; exact HBR.out.alloc hs0r _
    have HB1 : Hid (∀ wx, Below W1.heap.size W1 wx → wx.cell? ⟨wr.heap.size, 0, none⟩ = some (.int .u32 c.iu) ∧ wx.cell? ⟨wr.heap.size, 1, none⟩ = some (.int .u32 c.id) ∧ wx.cell? ⟨wr.heap.size, 2, none⟩ = some (.bool c.cut) ∧ wx.cell? ⟨wr.heap.size, 3, none⟩ = some (.int .u32 c.lu) ∧ wx.cell? ⟨wr.heap.size, 4, none⟩ = some (.int .u32 c.ld) ∧ wx.cell? ⟨wr.heap.size, 5, none⟩ = some (.bool c.gong) ∧ wx.cell? ⟨wr.heap.size, 6, none⟩ = some (.int .i64 c.cmd) ∧ wx.cell? ⟨wr.heap.size, 7, none⟩ = some (.int .i64 c.ph) ∧ wx.cell? ⟨wr.heap.size, 8, none⟩ = some (.bool c.flag)) := fun wx h => by
      have r1 : wx.heap[wr.heap.size]? = some (.cells #[.int .u32 c.iu, .int .u32 c.id, .bool c.cut, .int .u32 c.lu, .int .u32 c.ld, .bool c.gong, .int .i64 c.cmd, .int .i64 c.ph, .bool c.flag] 93 (0, 0)) := (h.block _ (by omega)).trans (by rw [hW1]; exact heap_alloc_new wr _)
      exact ⟨cell_of_row _ _ _ _ _ (0, 0) r1, cell_of_row _ _ _ _ _ (0, 0) r1, cell_of_row _ _ _ _ _ (0, 0) r1, cell_of_row _ _ _ _ _ (0, 0) r1, cell_of_row _ _ _ _ _ (0, 0) r1, cell_of_row _ _ _ _ _ (0, 0) r1, cell_of_row _ _ _ _ _ (0, 0) r1, cell_of_row _ _ _ _ _ (0, 0) r1, cell_of_row _ _ _ _ _ (0, 0) r1⟩
    clear hW1 a0 a1 a2 a3 a4 a5 a6 a7 a8 a9 a10 a11 a12 a13 a14 a15 g0 g1 g2 g3 g4 g5 g6 g7 g8
    refine Ghost.ghost (fun γ L wx => Ghost.Made W1 17 (.cells #[.bool c.cut, .bool c.gong, .bool c.flag] 4 (0, 0)) γ L wx) (by kernel_rfl) (by kernel_rfl) (fun γ => ⟨(Below.refl _ _).drew, fun h => absurd h Bool.false_ne_true⟩) ?_
    apply Ghost.walk_const (fun γ => by rfl)
    · intro γ L wx h1 h2 hx K hK
      obtain ⟨c0, c1, c2, c3, c4, c5, c6, c7, c8⟩ := HB1.out wx hx.below
      have HK2 := Lib.hid hK
      have HX := Lib.hid hx
      clear hK h1 h2 hx
      go_simp
      exact HK2.out _ (HX.out.next (by decide) (Below.refl _ _))
    simp only [Act.put, List.setIfInBounds_toArray, List.set_cons_succ, List.set_cons_zero]
    apply Ghost.walk_const (fun γ => by rfl)
    · intro γ L wx h1 h2 hx K hK
      obtain ⟨c0, c1, c2, c3, c4, c5, c6, c7, c8⟩ := HB1.out wx hx.below
      have HK2 := Lib.hid hK
      have HX := Lib.hid hx
      clear hK h1 h2 hx
      go_simp
      exact HK2.out _ (HX.out.next (by decide) (Below.refl _ _))
    simp only [Act.put, List.setIfInBounds_toArray, List.set_cons_succ, List.set_cons_zero]
    apply Ghost.walk_const (fun γ => by rfl)
    · intro γ L wx h1 h2 hx K hK
      obtain ⟨c0, c1, c2, c3, c4, c5, c6, c7, c8⟩ := HB1.out wx hx.below
      have HK2 := Lib.hid hK
      have HX := Lib.hid hx
      clear hK h1 h2 hx
      go_simp
      exact HK2.out _ (HX.out.next (by decide) (Below.refl _ _))
    simp only [Act.put, List.setIfInBounds_toArray, List.set_cons_succ, List.set_cons_zero]
    apply Ghost.walk_const (fun γ => by rfl)
    · intro γ L wx h1 h2 hx K hK
      obtain ⟨c0, c1, c2, c3, c4, c5, c6, c7, c8⟩ := HB1.out wx hx.below
      have HK2 := Lib.hid hK
      have HX := Lib.hid hx
      clear hK h1 h2 hx
      go_simp
      exact HK2.out _ (HX.out.next (by decide) (Below.refl _ _))
    simp only [Act.put, List.setIfInBounds_toArray, List.set_cons_succ, List.set_cons_zero]
    apply Ghost.walk_const (fun γ => by rfl)
    · intro γ L wx h1 h2 hx K hK
      obtain ⟨c0, c1, c2, c3, c4, c5, c6, c7, c8⟩ := HB1.out wx hx.below
      have HK2 := Lib.hid hK
      have HX := Lib.hid hx
      clear hK h1 h2 hx
      go_simp
      go_at_call 33; refine (N1.out _).mono ?_; rintro e w5 ⟨rfl, hb5⟩; exact HK2.out _ (HX.out.next (by decide) hb5)
    simp only [Act.put, List.setIfInBounds_toArray, List.set_cons_succ, List.set_cons_zero]
    apply Ghost.walk_const (fun γ => by rfl)
    · intro γ L wx h1 h2 hx K hK
      obtain ⟨c0, c1, c2, c3, c4, c5, c6, c7, c8⟩ := HB1.out wx hx.below
      have HK2 := Lib.hid hK
      have HX := Lib.hid hx
      clear hK h1 h2 hx
      go_simp
      exact HK2.out _ (HX.out.next (by decide) (Below.refl _ _))
    simp only [Act.put, List.setIfInBounds_toArray, List.set_cons_succ, List.set_cons_zero]
    apply Ghost.walk_const (fun γ => by rfl)
    · intro γ L wx h1 h2 hx K hK
      obtain ⟨c0, c1, c2, c3, c4, c5, c6, c7, c8⟩ := HB1.out wx hx.below
      have HK2 := Lib.hid hK
      have HX := Lib.hid hx
      clear hK h1 h2 hx
      go_simp
      exact HK2.out _ (HX.out.next (by decide) (Below.refl _ _))
    simp only [Act.put, List.setIfInBounds_toArray, List.set_cons_succ, List.set_cons_zero]
    apply Ghost.walk_const (fun γ => by rfl)
    · intro γ L wx h1 h2 hx K hK
      obtain ⟨c0, c1, c2, c3, c4, c5, c6, c7, c8⟩ := HB1.out wx hx.below
      have HK2 := Lib.hid hK
      have HX := Lib.hid hx
      clear hK h1 h2 hx
      go_simp
      exact HK2.out _ (HX.out.next (by decide) (Below.refl _ _))
    simp only [Act.put, List.setIfInBounds_toArray, List.set_cons_succ, List.set_cons_zero]
    apply Ghost.walk_const (fun γ => by rfl)
    · intro γ L wx h1 h2 hx K hK
      obtain ⟨c0, c1, c2, c3, c4, c5, c6, c7, c8⟩ := HB1.out wx hx.below
      have HK2 := Lib.hid hK
      have HX := Lib.hid hx
      clear hK h1 h2 hx
      go_simp
      go_at_call 33; refine (N2.out _).mono ?_; rintro e w5 ⟨rfl, hb5⟩; exact HK2.out _ (HX.out.next (by decide) hb5)
    simp only [Act.put, List.setIfInBounds_toArray, List.set_cons_succ, List.set_cons_zero]
    apply Ghost.walk_const (fun γ => by rfl)
    · intro γ L wx h1 h2 hx K hK
      obtain ⟨c0, c1, c2, c3, c4, c5, c6, c7, c8⟩ := HB1.out wx hx.below
      have HK2 := Lib.hid hK
      have HX := Lib.hid hx
      clear hK h1 h2 hx
      go_simp
      exact HK2.out _ (HX.out.next (by decide) (Below.refl _ _))
    simp only [Act.put, List.setIfInBounds_toArray, List.set_cons_succ, List.set_cons_zero]
    apply Ghost.walk_const (fun γ => by rfl)
    · intro γ L wx h1 h2 hx K hK
      obtain ⟨c0, c1, c2, c3, c4, c5, c6, c7, c8⟩ := HB1.out wx hx.below
      have HK2 := Lib.hid hK
      have HX := Lib.hid hx
      clear hK h1 h2 hx
      go_simp
      exact HK2.out _ (HX.out.next (by decide) (Below.refl _ _))
    simp only [Act.put, List.setIfInBounds_toArray, List.set_cons_succ, List.set_cons_zero]
    apply Ghost.walk_const (fun γ => by rfl)
    · intro γ L wx h1 h2 hx K hK
      obtain ⟨c0, c1, c2, c3, c4, c5, c6, c7, c8⟩ := HB1.out wx hx.below
      have HK2 := Lib.hid hK
      have HX := Lib.hid hx
      clear hK h1 h2 hx
      go_simp
      exact HK2.out _ (HX.out.next (by decide) (Below.refl _ _))
    simp only [Act.put, List.setIfInBounds_toArray, List.set_cons_succ, List.set_cons_zero]
    apply Ghost.walk_const (fun γ => by rfl)
    · intro γ L wx h1 h2 hx K hK
      obtain ⟨c0, c1, c2, c3, c4, c5, c6, c7, c8⟩ := HB1.out wx hx.below
      have HK2 := Lib.hid hK
      have HX := Lib.hid hx
      clear hK h1 h2 hx
      go_simp
      exact HK2.out _ (HX.out.next (by decide) (Below.refl _ _))
    simp only [Act.put, List.setIfInBounds_toArray, List.set_cons_succ, List.set_cons_zero]
    apply Ghost.walk_const (fun γ => by rfl)
    · intro γ L wx h1 h2 hx K hK
      obtain ⟨c0, c1, c2, c3, c4, c5, c6, c7, c8⟩ := HB1.out wx hx.below
      have HK2 := Lib.hid hK
      have HX := Lib.hid hx
      clear hK h1 h2 hx
      go_simp
      exact HK2.out _ (HX.out.next (by decide) (Below.refl _ _))
    simp only [Act.put, List.setIfInBounds_toArray, List.set_cons_succ, List.set_cons_zero]
    apply Ghost.walk_const (fun γ => by rfl)
    · intro γ L wx h1 h2 hx K hK
      obtain ⟨c0, c1, c2, c3, c4, c5, c6, c7, c8⟩ := HB1.out wx hx.below
      have HK2 := Lib.hid hK
      have HX := Lib.hid hx
      clear hK h1 h2 hx
      go_simp
      exact HK2.out _ (HX.out.next (by decide) (Below.refl _ _))
    simp only [Act.put, List.setIfInBounds_toArray, List.set_cons_succ, List.set_cons_zero]
    apply Ghost.walk_const (fun γ => by rfl)
    · intro γ L wx h1 h2 hx K hK
      obtain ⟨c0, c1, c2, c3, c4, c5, c6, c7, c8⟩ := HB1.out wx hx.below
      have HK2 := Lib.hid hK
      have HX := Lib.hid hx
      clear hK h1 h2 hx
      go_simp
      exact HK2.out _ (HX.out.next (by decide) (Below.refl _ _))
    simp only [Act.put, List.setIfInBounds_toArray, List.set_cons_succ, List.set_cons_zero]
    apply Ghost.walk_const (fun γ => by rfl)
    · intro γ L wx h1 h2 hx K hK
      obtain ⟨c0, c1, c2, c3, c4, c5, c6, c7, c8⟩ := HB1.out wx hx.below
      have HK2 := Lib.hid hK
      have HX := Lib.hid hx
      clear hK h1 h2 hx
      go_simp
      exact HK2.out _ (HX.out.next (by decide) (Below.refl _ _))
    simp only [Act.put, List.setIfInBounds_toArray, List.set_cons_succ, List.set_cons_zero]
    apply Ghost.walk_yes (fun b => .slice (some ⟨b, 0, none⟩) 3 3) (fun γ => by rfl)
    · intro γ L wx h1 h2 hx K hK
      obtain ⟨c0, c1, c2, c3, c4, c5, c6, c7, c8⟩ := HB1.out wx hx.below
      have HK2 := Lib.hid hK
      have HX := Lib.hid hx
      clear hK h1 h2 hx
      go_simp
      exact HK2.out wx.heap.size _ HX.out.make
    simp only [Act.put, List.setIfInBounds_toArray, List.set_cons_succ, List.set_cons_zero]
    apply Ghost.walk_const (fun γ => by rfl)
    · intro γ L wx h1 h2 hx K hK
      obtain ⟨c0, c1, c2, c3, c4, c5, c6, c7, c8⟩ := HB1.out wx hx.below
      have HR := Lib.hid (hx.row (h2 17 (by kernel_rfl))).2
      have HK2 := Lib.hid hK
      have HX := Lib.hid hx
      clear hK h1 h2 hx
      go_simp
      go_at_call 34; refine (N3.out _ _ (cell_of_row _ _ 0 _ _ (0, 0) HR.out) (cell_of_row _ _ 1 _ _ (0, 0) HR.out) (cell_of_row _ _ 2 _ _ (0, 0) HR.out)).mono ?_; rintro e w5 ⟨rfl, hb5⟩; exact HK2.out _ (HX.out.next (by decide) hb5)
    simp only [Act.put, List.setIfInBounds_toArray, List.set_cons_succ, List.set_cons_zero]
    apply Ghost.walk_const (fun γ => by rfl)
    · intro γ L wx h1 h2 hx K hK
      obtain ⟨c0, c1, c2, c3, c4, c5, c6, c7, c8⟩ := HB1.out wx hx.below
      have HK2 := Lib.hid hK
      have HX := Lib.hid hx
      clear hK h1 h2 hx
      go_simp
      exact HK2.out _ (HX.out.next (by decide) (Below.refl _ _))
    simp only [Act.put, List.setIfInBounds_toArray, List.set_cons_succ, List.set_cons_zero]
    apply Ghost.walk_const (fun γ => by rfl)
    · intro γ L wx h1 h2 hx K hK
      obtain ⟨c0, c1, c2, c3, c4, c5, c6, c7, c8⟩ := HB1.out wx hx.below
      have HK2 := Lib.hid hK
      have HX := Lib.hid hx
      clear hK h1 h2 hx
      go_simp
      exact HK2.out _ (HX.out.next (by decide) (Below.refl _ _))
    simp only [Act.put, List.setIfInBounds_toArray, List.set_cons_succ, List.set_cons_zero]
    apply Ghost.walk_const (fun γ => by rfl)
    · intro γ L wx h1 h2 hx K hK
      obtain ⟨c0, c1, c2, c3, c4, c5, c6, c7, c8⟩ := HB1.out wx hx.below
      have HK2 := Lib.hid hK
      have HX := Lib.hid hx
      clear hK h1 h2 hx
      go_simp
      exact HK2.out _ (HX.out.next (by decide) (Below.refl _ _))
    simp only [Act.put, List.setIfInBounds_toArray, List.set_cons_succ, List.set_cons_zero]
    apply Ghost.walk_const (fun γ => by rfl)
    · intro γ L wx h1 h2 hx K hK
      obtain ⟨c0, c1, c2, c3, c4, c5, c6, c7, c8⟩ := HB1.out wx hx.below
      have HK2 := Lib.hid hK
      have HX := Lib.hid hx
      clear hK h1 h2 hx
      go_simp
      exact HK2.out _ (HX.out.next (by decide) (Below.refl _ _))
    simp only [Act.put, List.setIfInBounds_toArray, List.set_cons_succ, List.set_cons_zero]
    apply Ghost.walk_const (fun γ => by rfl)
    · intro γ L wx h1 h2 hx K hK
      obtain ⟨c0, c1, c2, c3, c4, c5, c6, c7, c8⟩ := HB1.out wx hx.below
      have HK2 := Lib.hid hK
      have HX := Lib.hid hx
      clear hK h1 h2 hx
      go_simp
      go_at_call 32; refine (N4.out _).mono ?_; rintro e w5 ⟨rfl, hb5⟩; exact HK2.out _ (HX.out.next (by decide) hb5)
    simp only [Act.put, List.setIfInBounds_toArray, List.set_cons_succ, List.set_cons_zero]
    apply Ghost.walk_const (fun γ => by rfl)
    · intro γ L wx h1 h2 hx K hK
      obtain ⟨c0, c1, c2, c3, c4, c5, c6, c7, c8⟩ := HB1.out wx hx.below
      have HK2 := Lib.hid hK
      have HX := Lib.hid hx
      clear hK h1 h2 hx
      go_simp
      exact HK2.out _ (HX.out.next (by decide) (Below.refl _ _))
    simp only [Act.put, List.setIfInBounds_toArray, List.set_cons_succ, List.set_cons_zero]
    apply Ghost.walk_const (fun γ => by rfl)
    · intro γ L wx h1 h2 hx K hK
      obtain ⟨c0, c1, c2, c3, c4, c5, c6, c7, c8⟩ := HB1.out wx hx.below
      have HK2 := Lib.hid hK
      have HX := Lib.hid hx
      clear hK h1 h2 hx
      go_simp
      exact HK2.out _ (HX.out.next (by decide) (Below.refl _ _))
    simp only [Act.put, List.setIfInBounds_toArray, List.set_cons_succ, List.set_cons_zero]
    apply Ghost.walk_const (fun γ => by rfl)
    · intro γ L wx h1 h2 hx K hK
      obtain ⟨c0, c1, c2, c3, c4, c5, c6, c7, c8⟩ := HB1.out wx hx.below
      have HK2 := Lib.hid hK
      have HX := Lib.hid hx
      clear hK h1 h2 hx
      go_simp
      exact HK2.out _ (HX.out.next (by decide) (Below.refl _ _))
    simp only [Act.put, List.setIfInBounds_toArray, List.set_cons_succ, List.set_cons_zero]
    apply Ghost.walk_const (fun γ => by rfl)
    · intro γ L wx h1 h2 hx K hK
      obtain ⟨c0, c1, c2, c3, c4, c5, c6, c7, c8⟩ := HB1.out wx hx.below
      have HK2 := Lib.hid hK
      have HX := Lib.hid hx
      clear hK h1 h2 hx
      go_simp
      exact HK2.out _ (HX.out.next (by decide) (Below.refl _ _))
    simp only [Act.put, List.setIfInBounds_toArray, List.set_cons_succ, List.set_cons_zero]
    apply Ghost.walk_const (fun γ => by rfl)
    · intro γ L wx h1 h2 hx K hK
      obtain ⟨c0, c1, c2, c3, c4, c5, c6, c7, c8⟩ := HB1.out wx hx.below
      have HK2 := Lib.hid hK
      have HX := Lib.hid hx
      clear hK h1 h2 hx
      go_simp
      go_at_call 32; refine (N5.out _).mono ?_; rintro e w5 ⟨rfl, hb5⟩; exact HK2.out _ (HX.out.next (by decide) hb5)
    simp only [Act.put, List.setIfInBounds_toArray, List.set_cons_succ, List.set_cons_zero]
    apply Ghost.walk_const (fun γ => by rfl)
    · intro γ L wx h1 h2 hx K hK
      obtain ⟨c0, c1, c2, c3, c4, c5, c6, c7, c8⟩ := HB1.out wx hx.below
      have HK2 := Lib.hid hK
      have HX := Lib.hid hx
      clear hK h1 h2 hx
      go_simp
      exact HK2.out _ (HX.out.next (by decide) (Below.refl _ _))
    simp only [Act.put, List.setIfInBounds_toArray, List.set_cons_succ, List.set_cons_zero]
    apply Ghost.walk_const (fun γ => by rfl)
    · intro γ L wx h1 h2 hx K hK
      obtain ⟨c0, c1, c2, c3, c4, c5, c6, c7, c8⟩ := HB1.out wx hx.below
      have HK2 := Lib.hid hK
      have HX := Lib.hid hx
      clear hK h1 h2 hx
      go_simp
      exact HK2.out _ (HX.out.next (by decide) (Below.refl _ _))
    simp only [Act.put, List.setIfInBounds_toArray, List.set_cons_succ, List.set_cons_zero]
    refine Ghost.walk_nil (fun γ L w3 hall hx => ?_)
    clear hall
    have HX5 := Lib.hid (HB1B.out.trans (hx.below.mono (by have := HB1B.out.size; omega)))
    clear hx
    rw [HCAT.out]
    generalize γ _ = gb1
    go_wp2_with fail
    go_roundw
    case rel => exact ⟨m + 1, by omega, by go_num, rfl, HX5.out⟩
    case measure => simp [intOf]; omega
end

section
open Go.RowKit Frm

theorem ouText_ref (x : BldD) (y : Ou) : sealL (ouHd x.cars.length y.h ++ y.cars.flatMap coB) = ouText x y := by
  unfold ouText
  rw [ouN_wr]
  refine congrArg sealL ?_
  unfold ouHd ouB ohB headL
  rw [numL_one 90, numL_one x.cars.length]
  simp only [List.append_assoc, List.cons_append, List.nil_append]
def ouRes (x : BldD) (y : Ou) : Value := if isOutB x y = true then .tuple #[.string ⟨(ouText x y).toArray⟩, .int .i64 0] else .tuple #[.string ⟨#[]⟩, .int .i64 1]
theorem refOut_res (x : BldD) (A : Option Addr) (cap : Nat) (y : Ou) (A' : Option Addr) (cp : Nat) (w : World) (hva : validE x = 0) (hxn : x.cars.length ≤ 1000) (hc : CarsAt w w.heap.size A x.cars) (hn : y.cars.length ≤ 1000) (hy : saneOu y) (hv : CosV w A' y.cars) :
    Calls Try.prog 17 #[x.agg A cap, ouAgg y A' cp] w fun e w' => e = .returned (ouRes x y) ∧ Below w.heap.size w w' := by
  unfold ouRes
  cases hB : isOutB x y
  · rw [if_neg Bool.false_ne_true]
    exact refOut_no x A cap y A' cp w hva (by omega) hc hn hy hv hB
  · rw [if_pos rfl, ← ouText_ref]
    exact refOut_good x A cap y A' cp w hva hxn hc hn hy hv hB
theorem out_res (x : BldD) (A : Option Addr) (cap : Nat) (y : Ou) (A' : Option Addr) (cp : Nat) (w : World) (hva : validE x = 0) (hxn : x.cars.length ≤ 1000) (hc : CarsAt w w.heap.size A x.cars) (hn : y.cars.length ≤ 1000) (hy : saneOu y) (hv : CosV w A' y.cars) :
    Calls Try.prog 16 #[x.agg A cap, ouAgg y A' cp] w fun e w' => e = .returned (ouRes x y) ∧ Below w.heap.size w w' := by
  refine (out_any x A cap y A' cp w (by omega) hc hn hy hv).mono ?_
  rintro e w' ⟨hb, ⟨hok, he⟩ | ⟨hok, he⟩⟩
  · refine ⟨?_, hb⟩
    unfold ouRes
    rw [if_pos ((isOut_iff x y hva).2 hok)]
    exact he
  · refine ⟨?_, hb⟩
    unfold ouRes
    rw [if_neg (fun h => hok ((isOut_iff x y hva).1 h))]
    exact he
end
end Go.Proofs.Ytapkjknpoafhjaa
