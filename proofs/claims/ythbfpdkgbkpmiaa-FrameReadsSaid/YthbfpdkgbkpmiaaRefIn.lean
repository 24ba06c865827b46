/- overlayref03.In: the reference's frame of inputs. No statement of the seat is proved here. -/
import Derived.Test.YthbfpdkgbkpmiaaG30
import Derived.Test.YthbfpdkgbkpmiaaGhost
namespace Go.Proofs.Ythbfpdkgbkpmiaa
open Go.RowKit Frm

set_option maxRecDepth 100000 in
set_option maxHeartbeats 4000000 in
theorem refIn_no (x : BldD) (A : Option Addr) (cap : Nat) (y : In) (A' : Option Addr) (cp : Nat) (w : World) (hxn : x.cars.length ≤ 140737488355328) (hc : CarsAt w w.heap.size A x.cars) (hn : y.cars.length ≤ 1000) (hy : saneIn y) (hv : CarsV w A' y.cars) (hB : isInB x y = false) :
    Calls Try.prog 12 #[x.agg A cap, inAgg y A' cp] w fun e w' => e = .returned (.tuple #[.string ⟨#[]⟩, .int .i64 1]) ∧ Below w.heap.size w w' := by
  have F0 := Lib.hid (fun wx (h : Below w.heap.size w wx) => refIsIn_any x A cap y A' cp wx hxn ((hc.below h).more h.size) hn hy (hv.below h))
  rw [hB] at F0
  clear hc hv hy hB
  obtain ⟨pu, pd, kind, car, ys⟩ := y
  obtain ⟨f, d, r, p, e1, e2, e3, cs⟩ := x
  simp only [BldD.agg, inAgg] at *
  go_enter Try.func12, Try.ntmps12
  go_wp2_with fail
  obtain ⟨W0, hW0⟩ : ∃ W0, W0 = (w.alloc (.cells #[.int .i64 f, .int .i64 d, .int .i64 r, .int .i64 p, .float .f64 e1, .float .f64 e2, .float .f64 e3, .slice A cs.length cap] 25)).alloc (.cells #[.int .u32 pu, .int .u32 pd, .int .i64 kind, .int .i64 car, .slice A' ys.length cp] 33) := ⟨_, rfl⟩
  rw [← hW0]
  have hs0 : W0.heap.size = w.heap.size + 2 := by rw [hW0]; simp
  have HBW : Hid (Below w.heap.size w W0) := by rw [hW0]; exact ((Below.refl _ _).alloc (Nat.le_refl _) _).alloc (by simp) _
  have HB : Hid (∀ wx, Below W0.heap.size W0 wx → wx.cell? ⟨w.heap.size, 0, none⟩ = some (.int .i64 f) ∧ wx.cell? ⟨w.heap.size, 1, none⟩ = some (.int .i64 d) ∧ wx.cell? ⟨w.heap.size, 2, none⟩ = some (.int .i64 r) ∧ wx.cell? ⟨w.heap.size, 3, none⟩ = some (.int .i64 p) ∧ wx.cell? ⟨w.heap.size, 4, none⟩ = some (.float .f64 e1) ∧ wx.cell? ⟨w.heap.size, 5, none⟩ = some (.float .f64 e2) ∧ wx.cell? ⟨w.heap.size, 6, none⟩ = some (.float .f64 e3) ∧ wx.cell? ⟨w.heap.size, 7, none⟩ = some (.slice A cs.length cap) ∧ wx.cell? ⟨w.heap.size + 1, 0, none⟩ = some (.int .u32 pu) ∧ wx.cell? ⟨w.heap.size + 1, 1, none⟩ = some (.int .u32 pd) ∧ wx.cell? ⟨w.heap.size + 1, 2, none⟩ = some (.int .i64 kind) ∧ wx.cell? ⟨w.heap.size + 1, 3, none⟩ = some (.int .i64 car) ∧ wx.cell? ⟨w.heap.size + 1, 4, none⟩ = some (.slice A' ys.length cp)) := fun wx h => by
    have r0 : wx.heap[w.heap.size]? = some (.cells #[.int .i64 f, .int .i64 d, .int .i64 r, .int .i64 p, .float .f64 e1, .float .f64 e2, .float .f64 e3, .slice A cs.length cap] 25 (0, 0)) := (h.block _ (by omega)).trans (by rw [hW0]; exact (Below.heap_alloc _ _ _ (by simp)).trans (heap_alloc_new w _))
    have r1 : wx.heap[w.heap.size + 1]? = some (.cells #[.int .u32 pu, .int .u32 pd, .int .i64 kind, .int .i64 car, .slice A' ys.length cp] 33 (0, 0)) := (h.block _ (by omega)).trans (by
      rw [hW0]
      have h := heap_alloc_new (w.alloc (.cells #[.int .i64 f, .int .i64 d, .int .i64 r, .int .i64 p, .float .f64 e1, .float .f64 e2, .float .f64 e3, .slice A cs.length cap] 25)) (.cells #[.int .u32 pu, .int .u32 pd, .int .i64 kind, .int .i64 car, .slice A' ys.length cp] 33)
      have e : (w.alloc (.cells #[.int .i64 f, .int .i64 d, .int .i64 r, .int .i64 p, .float .f64 e1, .float .f64 e2, .float .f64 e3, .slice A cs.length cap] 25)).heap.size = w.heap.size + 1 := by simp
      rw [e] at h
      exact h)
    exact ⟨cell_of_row _ _ _ _ _ (0, 0) r0, cell_of_row _ _ _ _ _ (0, 0) r0, cell_of_row _ _ _ _ _ (0, 0) r0, cell_of_row _ _ _ _ _ (0, 0) r0, cell_of_row _ _ _ _ _ (0, 0) r0, cell_of_row _ _ _ _ _ (0, 0) r0, cell_of_row _ _ _ _ _ (0, 0) r0, cell_of_row _ _ _ _ _ (0, 0) r0, cell_of_row _ _ _ _ _ (0, 0) r1, cell_of_row _ _ _ _ _ (0, 0) r1, cell_of_row _ _ _ _ _ (0, 0) r1, cell_of_row _ _ _ _ _ (0, 0) r1, cell_of_row _ _ _ _ _ (0, 0) r1⟩
  clear hW0
  refine (F0.out W0 HBW.out).mono ?_
  rintro e w1 ⟨rfl, hb1⟩
  obtain ⟨a0, a1, a2, a3, a4, a5, a6, a7, a8, a9, a10, a11, a12⟩ := HB.out w1 hb1
  have HX := Lib.hid hb1
  clear hb1
  go_wp2_with fail
  go_ret2
  exact ⟨rfl, HBW.out.trans (HX.out.mono (by omega))⟩

theorem float64bits_run (n : Nat) (w : World) : (callFunc 35 #[.float .f64 n]).run Try.prog w = .ok (.value (.int .u64 n)) w := by
  rw [run_callFunc_extern (e := Extern.MathFloatBits.float64bits) Try.func35 (by kernel_rfl) (by kernel_rfl) (by kernel_rfl) (by kernel_rfl)]
  rfl
theorem str_size (l : List UInt8) : (⟨l.toArray⟩ : ByteArray).size = l.length := List.size_toArray

/-- The frame up to its cars. -/
def inHd (C : Nat) (y : In) : List UInt8 := numL 165 1 ++ (numL C 1 ++ ((numL y.pu 4 ++ numL y.pd 4) ++ (numL (m64 y.kind) 1 ++ numL (m64 y.car) 1)))

set_option maxRecDepth 100000 in
set_option maxHeartbeats 4000000 in
theorem refIn_good (x : BldD) (A : Option Addr) (cap : Nat) (y : In) (A' : Option Addr) (cp : Nat) (w : World) (hxn : x.cars.length ≤ 1000) (hc : CarsAt w w.heap.size A x.cars) (hn : y.cars.length ≤ 1000) (hy : saneIn y) (hv : CarsV w A' y.cars) (hB : isInB x y = true) :
    Calls Try.prog 12 #[x.agg A cap, inAgg y A' cp] w fun e w' => e = .returned (.tuple #[.string ⟨(sealL (inHd x.cars.length y ++ y.cars.flatMap carB)).toArray⟩, .int .i64 0]) ∧ Below w.heap.size w w' := by
  have F0 := Lib.hid (fun wx (h : Below w.heap.size w wx) => refIsIn_any x A cap y A' cp wx (by omega) ((hc.below h).more h.size) hn hy (hv.below h))
  rw [hB] at F0
  have HV := Lib.hid hv
  have HSC : Hid (∀ c ∈ y.cars, saneCar c) := hy.2.2.2.2
  have hpu := hy.1
  have hpd := hy.2.1
  have hCw : IntKind.u64.wrap (x.cars.length : Int) = (x.cars.length : Int) := by rw [IntKind.wrap_u64]; omega
  have hkw := m64_wrap y.kind
  have hcw := m64_wrap y.car
  clear hc hv hy hB
  obtain ⟨T, hT⟩ : ∃ T, T = inHd x.cars.length y := ⟨_, rfl⟩
  rw [← hT]
  unfold inHd at hT
  have N1 := Lib.hid (fun wx => refNum_any 165 1 wx (by omega))
  have N2 := Lib.hid (fun wx => refNum_any x.cars.length 1 wx (by omega))
  have N3 := Lib.hid (fun wx => refCalls_any y.pu y.pd wx hpu hpd)
  have N4 := Lib.hid (fun wx => refNum_any (m64 y.kind) 1 wx (by omega))
  have N5 := Lib.hid (fun wx => refNum_any (m64 y.car) 1 wx (by omega))
  have hcat : ((((⟨(numL 165 1).toArray⟩ : ByteArray) ++ (⟨(numL x.cars.length 1).toArray⟩ : ByteArray)) ++ (⟨(numL y.pu 4 ++ numL y.pd 4).toArray⟩ : ByteArray)) ++ (⟨(numL (m64 y.kind) 1).toArray⟩ : ByteArray)) ++ (⟨(numL (m64 y.car) 1).toArray⟩ : ByteArray) = ⟨T.toArray⟩ := by
    rw [app_bl, app_bl, app_bl, app_bl, hT]
    simp only [bytes_u, List.append_assoc]
  have z1 := str_size (numL 165 1)
  have z2 := str_size (numL x.cars.length 1)
  have z3 := str_size (numL y.pu 4 ++ numL y.pd 4)
  have z4 := str_size (numL (m64 y.kind) 1)
  have z5 := str_size (numL (m64 y.car) 1)
  simp only [List.length_append, numL_length] at z1 z2 z3 z4 z5
  have HTL : Hid (T.length = 12) := by rw [hT]; show _ = _; simp only [List.length_append, numL_length]
  clear hT
  generalize (⟨(numL 165 1).toArray⟩ : ByteArray) = B1 at *
  generalize (⟨(numL x.cars.length 1).toArray⟩ : ByteArray) = B2 at *
  generalize (⟨(numL y.pu 4 ++ numL y.pd 4).toArray⟩ : ByteArray) = B3 at *
  generalize (⟨(numL (m64 y.kind) 1).toArray⟩ : ByteArray) = B4 at *
  generalize (⟨(numL (m64 y.car) 1).toArray⟩ : ByteArray) = B5 at *
  have HCAT := Lib.hid hcat
  clear hcat
  obtain ⟨pu, pd, kind, car, ys⟩ := y
  obtain ⟨f, d, r, p, e1, e2, e3, cs⟩ := x
  simp only [BldD.agg, inAgg] at *
  generalize m64 kind = mk at *
  generalize m64 car = mc at *
  go_enter Try.func12, Try.ntmps12
  go_wp2_with fail
  obtain ⟨W0, hW0⟩ : ∃ W0, W0 = (w.alloc (.cells #[.int .i64 f, .int .i64 d, .int .i64 r, .int .i64 p, .float .f64 e1, .float .f64 e2, .float .f64 e3, .slice A cs.length cap] 25)).alloc (.cells #[.int .u32 pu, .int .u32 pd, .int .i64 kind, .int .i64 car, .slice A' ys.length cp] 33) := ⟨_, rfl⟩
  rw [← hW0]
  have hs0 : W0.heap.size = w.heap.size + 2 := by rw [hW0]; simp
  have HBW : Hid (Below w.heap.size w W0) := by rw [hW0]; exact ((Below.refl _ _).alloc (Nat.le_refl _) _).alloc (by simp) _
  have HB : Hid (∀ wx, Below W0.heap.size W0 wx → wx.cell? ⟨w.heap.size, 0, none⟩ = some (.int .i64 f) ∧ wx.cell? ⟨w.heap.size, 1, none⟩ = some (.int .i64 d) ∧ wx.cell? ⟨w.heap.size, 2, none⟩ = some (.int .i64 r) ∧ wx.cell? ⟨w.heap.size, 3, none⟩ = some (.int .i64 p) ∧ wx.cell? ⟨w.heap.size, 4, none⟩ = some (.float .f64 e1) ∧ wx.cell? ⟨w.heap.size, 5, none⟩ = some (.float .f64 e2) ∧ wx.cell? ⟨w.heap.size, 6, none⟩ = some (.float .f64 e3) ∧ wx.cell? ⟨w.heap.size, 7, none⟩ = some (.slice A cs.length cap) ∧ wx.cell? ⟨w.heap.size + 1, 0, none⟩ = some (.int .u32 pu) ∧ wx.cell? ⟨w.heap.size + 1, 1, none⟩ = some (.int .u32 pd) ∧ wx.cell? ⟨w.heap.size + 1, 2, none⟩ = some (.int .i64 kind) ∧ wx.cell? ⟨w.heap.size + 1, 3, none⟩ = some (.int .i64 car) ∧ wx.cell? ⟨w.heap.size + 1, 4, none⟩ = some (.slice A' ys.length cp)) := fun wx h => by
    have r0 : wx.heap[w.heap.size]? = some (.cells #[.int .i64 f, .int .i64 d, .int .i64 r, .int .i64 p, .float .f64 e1, .float .f64 e2, .float .f64 e3, .slice A cs.length cap] 25 (0, 0)) := (h.block _ (by omega)).trans (by rw [hW0]; exact (Below.heap_alloc _ _ _ (by simp)).trans (heap_alloc_new w _))
    have r1 : wx.heap[w.heap.size + 1]? = some (.cells #[.int .u32 pu, .int .u32 pd, .int .i64 kind, .int .i64 car, .slice A' ys.length cp] 33 (0, 0)) := (h.block _ (by omega)).trans (by
      rw [hW0]
      have h := heap_alloc_new (w.alloc (.cells #[.int .i64 f, .int .i64 d, .int .i64 r, .int .i64 p, .float .f64 e1, .float .f64 e2, .float .f64 e3, .slice A cs.length cap] 25)) (.cells #[.int .u32 pu, .int .u32 pd, .int .i64 kind, .int .i64 car, .slice A' ys.length cp] 33)
      have e : (w.alloc (.cells #[.int .i64 f, .int .i64 d, .int .i64 r, .int .i64 p, .float .f64 e1, .float .f64 e2, .float .f64 e3, .slice A cs.length cap] 25)).heap.size = w.heap.size + 1 := by simp
      rw [e] at h
      exact h)
    exact ⟨cell_of_row _ _ _ _ _ (0, 0) r0, cell_of_row _ _ _ _ _ (0, 0) r0, cell_of_row _ _ _ _ _ (0, 0) r0, cell_of_row _ _ _ _ _ (0, 0) r0, cell_of_row _ _ _ _ _ (0, 0) r0, cell_of_row _ _ _ _ _ (0, 0) r0, cell_of_row _ _ _ _ _ (0, 0) r0, cell_of_row _ _ _ _ _ (0, 0) r0, cell_of_row _ _ _ _ _ (0, 0) r1, cell_of_row _ _ _ _ _ (0, 0) r1, cell_of_row _ _ _ _ _ (0, 0) r1, cell_of_row _ _ _ _ _ (0, 0) r1, cell_of_row _ _ _ _ _ (0, 0) r1⟩
  clear hW0
  refine (F0.out W0 HBW.out).mono ?_
  rintro e w1 ⟨rfl, hb1⟩
  obtain ⟨a0, a1, a2, a3, a4, a5, a6, a7, a8, a9, a10, a11, a12⟩ := HB.out w1 hb1
  have HX := Lib.hid hb1
  clear hb1
  go_wp2_with fail
  clear a0 a1 a2 a3 a4 a5 a6 a7 a8 a9 a10 a11 a12
  refine Bag.region (fun wx => Below w1.heap.size w1 wx) (by kernel_rfl) (by kernel_rfl) (Below.refl _ _).drew ?_
  iterate 1
    (apply Bag.walk_yes (by rfl)
     (intro wx hx K hK
      obtain ⟨a0, a1, a2, a3, a4, a5, a6, a7, a8, a9, a10, a11, a12⟩ := HB.out wx (HX.out.trans (hx.mono HX.out.size))
      have HXX := Lib.hid hx
      clear hx
      go_simp
      go_at_call 32; refine (N1.out _).mono ?_; rintro e w3 ⟨rfl, hb3⟩; exact hK _ (HXX.out.trans (hb3.mono HXX.out.size)))
     rfl)
  iterate 4
    (apply Bag.walk_yes (by rfl)
     (intro wx hx K hK
      obtain ⟨a0, a1, a2, a3, a4, a5, a6, a7, a8, a9, a10, a11, a12⟩ := HB.out wx (HX.out.trans (hx.mono HX.out.size))
      have HXX := Lib.hid hx
      clear hx
      go_simp
      go_at_K; exact hK _ HXX.out)
     rfl)
  iterate 1
    (apply Bag.walk_yes (by rfl)
     (intro wx hx K hK
      obtain ⟨a0, a1, a2, a3, a4, a5, a6, a7, a8, a9, a10, a11, a12⟩ := HB.out wx (HX.out.trans (hx.mono HX.out.size))
      have HXX := Lib.hid hx
      clear hx
      go_simp
      go_at_call 32; refine (N2.out _).mono ?_; rintro e w3 ⟨rfl, hb3⟩; exact hK _ (HXX.out.trans (hb3.mono HXX.out.size)))
     rfl)
  iterate 3
    (apply Bag.walk_yes (by rfl)
     (intro wx hx K hK
      obtain ⟨a0, a1, a2, a3, a4, a5, a6, a7, a8, a9, a10, a11, a12⟩ := HB.out wx (HX.out.trans (hx.mono HX.out.size))
      have HXX := Lib.hid hx
      clear hx
      go_simp
      go_at_K; exact hK _ HXX.out)
     rfl)
  iterate 1
    (apply Bag.walk_yes (by rfl)
     (intro wx hx K hK
      obtain ⟨a0, a1, a2, a3, a4, a5, a6, a7, a8, a9, a10, a11, a12⟩ := HB.out wx (HX.out.trans (hx.mono HX.out.size))
      have HXX := Lib.hid hx
      clear hx
      go_simp
      go_at_call 33; refine (N3.out _).mono ?_; rintro e w3 ⟨rfl, hb3⟩; exact hK _ (HXX.out.trans (hb3.mono HXX.out.size)))
     rfl)
  iterate 5
    (apply Bag.walk_yes (by rfl)
     (intro wx hx K hK
      obtain ⟨a0, a1, a2, a3, a4, a5, a6, a7, a8, a9, a10, a11, a12⟩ := HB.out wx (HX.out.trans (hx.mono HX.out.size))
      have HXX := Lib.hid hx
      clear hx
      go_simp
      go_at_K; exact hK _ HXX.out)
     rfl)
  iterate 1
    (apply Bag.walk_yes (by rfl)
     (intro wx hx K hK
      obtain ⟨a0, a1, a2, a3, a4, a5, a6, a7, a8, a9, a10, a11, a12⟩ := HB.out wx (HX.out.trans (hx.mono HX.out.size))
      have HXX := Lib.hid hx
      clear hx
      go_simp
      go_at_call 32; refine (N4.out _).mono ?_; rintro e w3 ⟨rfl, hb3⟩; exact hK _ (HXX.out.trans (hb3.mono HXX.out.size)))
     rfl)
  iterate 5
    (apply Bag.walk_yes (by rfl)
     (intro wx hx K hK
      obtain ⟨a0, a1, a2, a3, a4, a5, a6, a7, a8, a9, a10, a11, a12⟩ := HB.out wx (HX.out.trans (hx.mono HX.out.size))
      have HXX := Lib.hid hx
      clear hx
      go_simp
      go_at_K; exact hK _ HXX.out)
     rfl)
  iterate 1
    (apply Bag.walk_yes (by rfl)
     (intro wx hx K hK
      obtain ⟨a0, a1, a2, a3, a4, a5, a6, a7, a8, a9, a10, a11, a12⟩ := HB.out wx (HX.out.trans (hx.mono HX.out.size))
      have HXX := Lib.hid hx
      clear hx
      go_simp
      go_at_call 32; refine (N5.out _).mono ?_; rintro e w3 ⟨rfl, hb3⟩; exact hK _ (HXX.out.trans (hb3.mono HXX.out.size)))
     rfl)
  iterate 2
    (apply Bag.walk_yes (by rfl)
     (intro wx hx K hK
      obtain ⟨a0, a1, a2, a3, a4, a5, a6, a7, a8, a9, a10, a11, a12⟩ := HB.out wx (HX.out.trans (hx.mono HX.out.size))
      have HXX := Lib.hid hx
      clear hx
      go_simp
      go_at_K; exact hK _ HXX.out)
     rfl)
  refine Bag.walk_nil (fun w3 hx => ?_)
  have HX3 := Lib.hid (HX.out.trans (hx.mono HX.out.size))
  clear hx
  rw [HCAT.out]
  clear N1 N2 N3 N4 N5 HCAT z1 z2 z3 z4 z5
  go_wp2_with fail
  go_loopw [6, 7] (fun v6 v7 wr => ∃ m : Nat, m ≤ ys.length ∧ v7 = .int .i64 m ∧ v6 = .string ⟨(T ++ (ys.take m).flatMap carB).toArray⟩ ∧ Below W0.heap.size W0 wr) (fun _ v _ => ys.length - (intOf v).toNat)
  case atStart => exact ⟨0, Nat.zero_le _, rfl, by simp, HX3.out⟩
  case round =>
    obtain ⟨m, hm, rfl, rfl, hbr⟩ := hrel
    have hs0r : W0.heap.size ≤ wr.heap.size := hbr.size
    obtain ⟨a0, a1, a2, a3, a4, a5, a6, a7, a8, a9, a10, a11, a12⟩ := HB.out wr hbr
    have HBR := Lib.hid hbr
    clear hbr
    rcases Nat.lt_or_ge m ys.length with hlt | hge
    case inr =>
      obtain rfl : m = ys.length := by omega
      rw [List.take_length]
      have hz : (⟨(T ++ ys.flatMap carB).toArray⟩ : ByteArray).size ≤ 1000000 := by
        rw [str_size, List.length_append, HTL.out, flat_length carB_length]; omega
      have hbl : Hid (bl ⟨(T ++ ys.flatMap carB).toArray⟩ = T ++ ys.flatMap carB) := by
        show _ = _
        unfold bl; rfl
      generalize (⟨(T ++ ys.flatMap carB).toArray⟩ : ByteArray) = S at *
      have SEAL := Lib.hid (fun wx => refSeal_any S wx hz)
      rw [hbl.out] at SEAL
      clear hz hbl
      go_wp2_with fail
      refine (SEAL.out _).mono ?_
      rintro e w5 ⟨rfl, hb5⟩
      have HX5 := Lib.hid ((HBW.out.trans (HBR.out.mono (by omega))).trans (hb5.mono (by have := HBR.out.size; have := HBW.out.size; omega)))
      clear hb5
      go_wp2_with fail
      go_ret2
      exact ⟨rfl, HX5.out⟩
    have hbwr := HBW.out.trans (HBR.out.mono (by omega))
    rcases HV.out.below hbwr with h0 | ⟨b, off, rfl, hv⟩
    · subst h0; simp at hlt
    have g := hv m hlt
    have hsc := HSC.out ys[m] (List.getElem_mem hlt)
    have hnx : (ys.take (m + 1)).flatMap carB = (ys.take m).flatMap carB ++ carB ys[m] := by
      rw [List.take_succ_eq_append_getElem hlt, List.flatMap_append]; simp
    have hfl : ((ys.take m).flatMap carB).length = m * 19 := by rw [flat_length carB_length, List.length_take, Nat.min_eq_left (by omega)]
    clear hbwr hv
    generalize ys[m] = c at g hsc hnx
    have hzs : (⟨(T ++ (ys.take m).flatMap carB).toArray⟩ : ByteArray).size = 12 + m * 19 := by rw [str_size, List.length_append, HTL.out, hfl]
    have hcat : (((((((⟨(T ++ (ys.take m).flatMap carB).toArray⟩ : ByteArray) ++ (⟨(numL c.floors 4).toArray⟩ : ByteArray)) ++ (⟨(numL (flg c.flags) 1).toArray⟩ : ByteArray)) ++ (⟨(numL (m64 c.floor) 1).toArray⟩ : ByteArray)) ++ (⟨(numL (m64 c.door) 1).toArray⟩ : ByteArray)) ++ (⟨(numL c.calls 4).toArray⟩ : ByteArray)) ++ (⟨(numL c.load 8).toArray⟩ : ByteArray)) = ⟨(T ++ (ys.take (m + 1)).flatMap carB).toArray⟩ := by
      rw [app_bl, app_bl, app_bl, app_bl, app_bl, app_bl, hnx]
      simp only [bytes_u, List.append_assoc, carB]
    have N1 := Lib.hid (fun wx => refNum_any c.floors 4 wx (by omega))
    have N2 := Lib.hid (fun g wx (h0 : wx.cell? ⟨g, 0, none⟩ = some (.bool c.up)) (h1 : wx.cell? ⟨g, 1, none⟩ = some (.bool c.down)) (h2 : wx.cell? ⟨g, 2, none⟩ = some (.bool c.opened)) (h3 : wx.cell? ⟨g, 3, none⟩ = some (.bool c.closed)) (h4 : wx.cell? ⟨g, 4, none⟩ = some (.bool c.level)) (h5 : wx.cell? ⟨g, 5, none⟩ = some (.bool c.block)) => show Calls Try.prog 34 #[.slice (some ⟨g, 0, none⟩) 6 6] wx fun e w' => e = .returned (.string ⟨(numL (flg c.flags) 1).toArray⟩) ∧ Below wx.heap.size wx w' from refBits_any c.flags g 6 wx (by simp [CarIn.flags]) (fun j hj => by
      have hj6 : j < 6 := hj
      match j, hj6 with
      | 0, _ => exact h0
      | 1, _ => exact h1
      | 2, _ => exact h2
      | 3, _ => exact h3
      | 4, _ => exact h4
      | 5, _ => exact h5))
    have N3 := Lib.hid (fun wx => refNum_any (m64 c.floor) 1 wx (by omega))
    have N4 := Lib.hid (fun wx => refNum_any (m64 c.door) 1 wx (by omega))
    have N5 := Lib.hid (fun wx => refNum_any c.calls 4 wx (by omega))
    have N6 := Lib.hid (fun wx => refNum_any c.load 8 wx (by omega))
    have z1 := str_size (numL c.floors 4)
    have z2 := str_size (numL (flg c.flags) 1)
    have z3 := str_size (numL (m64 c.floor) 1)
    have z4 := str_size (numL (m64 c.door) 1)
    have z5 := str_size (numL c.calls 4)
    have z6 := str_size (numL c.load 8)
    simp only [numL_length] at z1 z2 z3 z4 z5 z6
    generalize (⟨(T ++ (ys.take m).flatMap carB).toArray⟩ : ByteArray) = S at *
    generalize (⟨(numL c.floors 4).toArray⟩ : ByteArray) = B1 at *
    generalize (⟨(numL (flg c.flags) 1).toArray⟩ : ByteArray) = B2 at *
    generalize (⟨(numL (m64 c.floor) 1).toArray⟩ : ByteArray) = B3 at *
    generalize (⟨(numL (m64 c.door) 1).toArray⟩ : ByteArray) = B4 at *
    generalize (⟨(numL c.calls 4).toArray⟩ : ByteArray) = B5 at *
    generalize (⟨(numL c.load 8).toArray⟩ : ByteArray) = B6 at *
    have HCAT := Lib.hid hcat
    have no1 : ¬ 9223372036854775807 < 12 + m * 19 + 4 := by omega
    have no2 : ¬ 9223372036854775807 < 12 + m * 19 + 4 + 1 := by omega
    have no3 : ¬ 9223372036854775807 < 12 + m * 19 + 4 + 1 + 1 := by omega
    have no4 : ¬ 9223372036854775807 < 12 + m * 19 + 4 + 1 + 1 + 1 := by omega
    have no5 : ¬ 9223372036854775807 < 12 + m * 19 + 4 + 1 + 1 + 1 + 4 := by omega
    have no6 : ¬ 9223372036854775807 < 12 + m * 19 + 4 + 1 + 1 + 1 + 4 + 8 := by omega
    have hfw := m64_wrap c.floor
    have hdw := m64_wrap c.door
    have hffw : IntKind.u64.wrap (c.floors : Int) = (c.floors : Int) := by rw [IntKind.wrap_u64]; have := hsc.1; omega
    have hccw : IntKind.u64.wrap (c.calls : Int) = (c.calls : Int) := by rw [IntKind.wrap_u64]; have := hsc.2.1; omega
    clear hcat hnx hfl
    have g0 : wr.cell? ⟨b, off + m * 11, none⟩ = some (.int .u32 c.floors) := g 0 _ rfl
    have g1 : wr.cell? ⟨b, off + m * 11 + 1, none⟩ = some (.bool c.up) := g 1 _ rfl
    have g2 : wr.cell? ⟨b, off + m * 11 + 2, none⟩ = some (.bool c.down) := g 2 _ rfl
    have g3 : wr.cell? ⟨b, off + m * 11 + 3, none⟩ = some (.bool c.opened) := g 3 _ rfl
    have g4 : wr.cell? ⟨b, off + m * 11 + 4, none⟩ = some (.bool c.closed) := g 4 _ rfl
    have g5 : wr.cell? ⟨b, off + m * 11 + 5, none⟩ = some (.int .i64 c.floor) := g 5 _ rfl
    have g6 : wr.cell? ⟨b, off + m * 11 + 6, none⟩ = some (.bool c.level) := g 6 _ rfl
    have g7 : wr.cell? ⟨b, off + m * 11 + 7, none⟩ = some (.int .i64 c.door) := g 7 _ rfl
    have g8 : wr.cell? ⟨b, off + m * 11 + 8, none⟩ = some (.bool c.block) := g 8 _ rfl
    have g9 : wr.cell? ⟨b, off + m * 11 + 9, none⟩ = some (.int .u32 c.calls) := g 9 _ rfl
    have g10 : wr.cell? ⟨b, off + m * 11 + 10, none⟩ = some (.float .f64 c.load) := g 10 _ rfl
    have hbl : b < wr.heap.size := World.block_lt_of_cell? wr _ g0
    clear g
    go_wp2_with fail
    obtain ⟨W1, hW1⟩ : ∃ W1, W1 = wr.alloc (.cells #[.int .u32 c.floors, .bool c.up, .bool c.down, .bool c.opened, .bool c.closed, .int .i64 c.floor, .bool c.level, .int .i64 c.door, .bool c.block, .int .u32 c.calls, .float .f64 c.load] 71) := ⟨_, rfl⟩
    rw [← hW1]
    have hs1 : W1.heap.size = wr.heap.size + 1 := by rw [hW1]; simp
    have HB1B : Hid (Below W0.heap.size W0 W1) := by rw [hW1]; exact HBR.out.alloc hs0r _
    have HB1 : Hid (∀ wx, Below W1.heap.size W1 wx → wx.cell? ⟨wr.heap.size, 0, none⟩ = some (.int .u32 c.floors) ∧ wx.cell? ⟨wr.heap.size, 1, none⟩ = some (.bool c.up) ∧ wx.cell? ⟨wr.heap.size, 2, none⟩ = some (.bool c.down) ∧ wx.cell? ⟨wr.heap.size, 3, none⟩ = some (.bool c.opened) ∧ wx.cell? ⟨wr.heap.size, 4, none⟩ = some (.bool c.closed) ∧ wx.cell? ⟨wr.heap.size, 5, none⟩ = some (.int .i64 c.floor) ∧ wx.cell? ⟨wr.heap.size, 6, none⟩ = some (.bool c.level) ∧ wx.cell? ⟨wr.heap.size, 7, none⟩ = some (.int .i64 c.door) ∧ wx.cell? ⟨wr.heap.size, 8, none⟩ = some (.bool c.block) ∧ wx.cell? ⟨wr.heap.size, 9, none⟩ = some (.int .u32 c.calls) ∧ wx.cell? ⟨wr.heap.size, 10, none⟩ = some (.float .f64 c.load)) := fun wx h => by
      have r1 : wx.heap[wr.heap.size]? = some (.cells #[.int .u32 c.floors, .bool c.up, .bool c.down, .bool c.opened, .bool c.closed, .int .i64 c.floor, .bool c.level, .int .i64 c.door, .bool c.block, .int .u32 c.calls, .float .f64 c.load] 71 (0, 0)) := (h.block _ (by omega)).trans (by rw [hW1]; exact heap_alloc_new wr _)
      exact ⟨cell_of_row _ _ _ _ _ (0, 0) r1, cell_of_row _ _ _ _ _ (0, 0) r1, cell_of_row _ _ _ _ _ (0, 0) r1, cell_of_row _ _ _ _ _ (0, 0) r1, cell_of_row _ _ _ _ _ (0, 0) r1, cell_of_row _ _ _ _ _ (0, 0) r1, cell_of_row _ _ _ _ _ (0, 0) r1, cell_of_row _ _ _ _ _ (0, 0) r1, cell_of_row _ _ _ _ _ (0, 0) r1, cell_of_row _ _ _ _ _ (0, 0) r1, cell_of_row _ _ _ _ _ (0, 0) r1⟩
    clear hW1 a0 a1 a2 a3 a4 a5 a6 a7 a8 a9 a10 a11 a12 g0 g1 g2 g3 g4 g5 g6 g7 g8 g9 g10
    obtain ⟨c0, c1, c2, c3, c4, c5, c6, c7, c8, c9, c10⟩ := HB1.out W1 (Below.refl _ _)
    have hpast : ∀ o j, (W1.alloc o).cell? ⟨wr.heap.size, j, none⟩ = W1.cell? ⟨wr.heap.size, j, none⟩ := fun o j => World.cell?_of_block (w := W1) (Below.heap_alloc W1 o wr.heap.size (by omega))
    have p0 := fun o => (hpast o 0).trans c0
    have p1 := fun o => (hpast o 1).trans c1
    have p2 := fun o => (hpast o 2).trans c2
    have p3 := fun o => (hpast o 3).trans c3
    have p4 := fun o => (hpast o 4).trans c4
    have p5 := fun o => (hpast o 5).trans c5
    have p6 := fun o => (hpast o 6).trans c6
    have p7 := fun o => (hpast o 7).trans c7
    have p8 := fun o => (hpast o 8).trans c8
    have p9 := fun o => (hpast o 9).trans c9
    have p10 := fun o => (hpast o 10).trans c10
    clear hpast
    clear p0 p1 p2 p3 p4 p5 p6 p7 p8 p9 p10 c0 c1 c2 c3 c4 c5 c6 c7 c8 c9 c10
    refine Ghost.ghost (fun γ L wx => Ghost.Made W1 25 (.cells #[.bool c.up, .bool c.down, .bool c.opened, .bool c.closed, .bool c.level, .bool c.block] 4 (0, 0)) γ L wx) (by kernel_rfl) (by kernel_rfl) (fun γ => ⟨(Below.refl _ _).drew, fun h => absurd h Bool.false_ne_true⟩) ?_
    iterate 5
      apply Ghost.walk_const (fun γ => by rfl)
      · intro γ L wx h1 h2 hx K hK
        obtain ⟨c0, c1, c2, c3, c4, c5, c6, c7, c8, c9, c10⟩ := HB1.out wx hx.below
        have HK2 := Lib.hid hK
        have HX := Lib.hid hx
        clear hK h1 h2 hx
        go_simp
        exact HK2.out _ (HX.out.next (by decide) (Below.refl _ _))
      simp only [Act.put, List.setIfInBounds_toArray, List.set_cons_succ, List.set_cons_zero]
    apply Ghost.walk_const (fun γ => by rfl)
    · intro γ L wx h1 h2 hx K hK
      obtain ⟨c0, c1, c2, c3, c4, c5, c6, c7, c8, c9, c10⟩ := HB1.out wx hx.below
      have HK2 := Lib.hid hK
      have HX := Lib.hid hx
      clear hK h1 h2 hx
      go_simp
      go_at_call 32; refine (N1.out _).mono ?_; rintro e w5 ⟨rfl, hb5⟩; exact HK2.out _ (HX.out.next (by decide) hb5)
    iterate 19
      simp only [Act.put, List.setIfInBounds_toArray, List.set_cons_succ, List.set_cons_zero]
      apply Ghost.walk_const (fun γ => by rfl)
      · intro γ L wx h1 h2 hx K hK
        obtain ⟨c0, c1, c2, c3, c4, c5, c6, c7, c8, c9, c10⟩ := HB1.out wx hx.below
        have HK2 := Lib.hid hK
        have HX := Lib.hid hx
        clear hK h1 h2 hx
        go_simp
        exact HK2.out _ (HX.out.next (by decide) (Below.refl _ _))
    simp only [Act.put, List.setIfInBounds_toArray, List.set_cons_succ, List.set_cons_zero]
    apply Ghost.walk_yes (fun b => .slice (some ⟨b, 0, none⟩) 6 6) (fun γ => by rfl)
    · intro γ L wx h1 h2 hx K hK
      obtain ⟨c0, c1, c2, c3, c4, c5, c6, c7, c8, c9, c10⟩ := HB1.out wx hx.below
      have HK2 := Lib.hid hK
      have HX := Lib.hid hx
      clear hK h1 h2 hx
      go_simp
      exact HK2.out wx.heap.size _ HX.out.make
    simp only [Act.put, List.setIfInBounds_toArray, List.set_cons_succ, List.set_cons_zero]
    apply Ghost.walk_const (fun γ => by rfl)
    · intro γ L wx h1 h2 hx K hK
      obtain ⟨c0, c1, c2, c3, c4, c5, c6, c7, c8, c9, c10⟩ := HB1.out wx hx.below
      have HR := Lib.hid (hx.row (h2 25 (by kernel_rfl))).2
      have HK2 := Lib.hid hK
      have HX := Lib.hid hx
      clear hK h1 h2 hx
      go_simp
      go_at_call 34; refine (N2.out _ _ (cell_of_row _ _ 0 _ _ (0, 0) HR.out) (cell_of_row _ _ 1 _ _ (0, 0) HR.out) (cell_of_row _ _ 2 _ _ (0, 0) HR.out) (cell_of_row _ _ 3 _ _ (0, 0) HR.out) (cell_of_row _ _ 4 _ _ (0, 0) HR.out) (cell_of_row _ _ 5 _ _ (0, 0) HR.out)).mono ?_; rintro e w5 ⟨rfl, hb5⟩; exact HK2.out _ (HX.out.next (by decide) hb5)
    iterate 2
      simp only [Act.put, List.setIfInBounds_toArray, List.set_cons_succ, List.set_cons_zero]
      apply Ghost.walk_const (fun γ => by rfl)
      · intro γ L wx h1 h2 hx K hK
        obtain ⟨c0, c1, c2, c3, c4, c5, c6, c7, c8, c9, c10⟩ := HB1.out wx hx.below
        have HK2 := Lib.hid hK
        have HX := Lib.hid hx
        clear hK h1 h2 hx
        go_simp
        exact HK2.out _ (HX.out.next (by decide) (Below.refl _ _))
    simp only [Act.put, List.setIfInBounds_toArray, List.set_cons_succ, List.set_cons_zero]
    refine Ghost.walk_nil (fun γ L w3 hall hx => ?_)
    clear hall
    generalize γ (0 + 1 + 1 + 1 + 1 + 1 + 1 + 1 + 1 + 1 + 1 + 1 + 1 + 1 + 1 + 1 + 1 + 1 + 1 + 1 + 1 + 1 + 1 + 1 + 1 + 1) = gb
    have HX4 := Lib.hid hx.below
    clear hx
    go_wp2_with fail
    have hb64 := float64bits_run c.load
    refine Bag.region (fun wx => Below w3.heap.size w3 wx) (by kernel_rfl) (by kernel_rfl) (Below.refl _ _).drew ?_
    iterate 5
      (apply Bag.walk_yes (by rfl)
       (intro wx hx K hK
        obtain ⟨c0, c1, c2, c3, c4, c5, c6, c7, c8, c9, c10⟩ := HB1.out wx (HX4.out.trans (hx.mono HX4.out.size))
        have HXX := Lib.hid hx
        clear hx
        go_simp
        go_at_K; exact hK _ HXX.out)
       rfl)
    iterate 1
      (apply Bag.walk_yes (by rfl)
       (intro wx hx K hK
        obtain ⟨c0, c1, c2, c3, c4, c5, c6, c7, c8, c9, c10⟩ := HB1.out wx (HX4.out.trans (hx.mono HX4.out.size))
        have HXX := Lib.hid hx
        clear hx
        go_simp
        go_at_call 32; refine (N3.out _).mono ?_; rintro e w5 ⟨rfl, hb5⟩; exact hK _ (HXX.out.trans (hb5.mono HXX.out.size)))
       rfl)
    iterate 5
      (apply Bag.walk_yes (by rfl)
       (intro wx hx K hK
        obtain ⟨c0, c1, c2, c3, c4, c5, c6, c7, c8, c9, c10⟩ := HB1.out wx (HX4.out.trans (hx.mono HX4.out.size))
        have HXX := Lib.hid hx
        clear hx
        go_simp
        go_at_K; exact hK _ HXX.out)
       rfl)
    iterate 1
      (apply Bag.walk_yes (by rfl)
       (intro wx hx K hK
        obtain ⟨c0, c1, c2, c3, c4, c5, c6, c7, c8, c9, c10⟩ := HB1.out wx (HX4.out.trans (hx.mono HX4.out.size))
        have HXX := Lib.hid hx
        clear hx
        go_simp
        go_at_call 32; refine (N4.out _).mono ?_; rintro e w5 ⟨rfl, hb5⟩; exact hK _ (HXX.out.trans (hb5.mono HXX.out.size)))
       rfl)
    iterate 4
      (apply Bag.walk_yes (by rfl)
       (intro wx hx K hK
        obtain ⟨c0, c1, c2, c3, c4, c5, c6, c7, c8, c9, c10⟩ := HB1.out wx (HX4.out.trans (hx.mono HX4.out.size))
        have HXX := Lib.hid hx
        clear hx
        go_simp
        go_at_K; exact hK _ HXX.out)
       rfl)
    iterate 1
      (apply Bag.walk_yes (by rfl)
       (intro wx hx K hK
        obtain ⟨c0, c1, c2, c3, c4, c5, c6, c7, c8, c9, c10⟩ := HB1.out wx (HX4.out.trans (hx.mono HX4.out.size))
        have HXX := Lib.hid hx
        clear hx
        go_simp
        go_at_call 32; refine (N5.out _).mono ?_; rintro e w5 ⟨rfl, hb5⟩; exact hK _ (HXX.out.trans (hb5.mono HXX.out.size)))
       rfl)
    iterate 4
      (apply Bag.walk_yes (by rfl)
       (intro wx hx K hK
        obtain ⟨c0, c1, c2, c3, c4, c5, c6, c7, c8, c9, c10⟩ := HB1.out wx (HX4.out.trans (hx.mono HX4.out.size))
        have HXX := Lib.hid hx
        clear hx
        go_simp
        go_at_K; exact hK _ HXX.out)
       rfl)
    iterate 1
      (apply Bag.walk_yes (by rfl)
       (intro wx hx K hK
        obtain ⟨c0, c1, c2, c3, c4, c5, c6, c7, c8, c9, c10⟩ := HB1.out wx (HX4.out.trans (hx.mono HX4.out.size))
        have HXX := Lib.hid hx
        clear hx
        go_simp
        go_at_call 32; refine (N6.out _).mono ?_; rintro e w5 ⟨rfl, hb5⟩; exact hK _ (HXX.out.trans (hb5.mono HXX.out.size)))
       rfl)
    iterate 2
      (apply Bag.walk_yes (by rfl)
       (intro wx hx K hK
        obtain ⟨c0, c1, c2, c3, c4, c5, c6, c7, c8, c9, c10⟩ := HB1.out wx (HX4.out.trans (hx.mono HX4.out.size))
        have HXX := Lib.hid hx
        clear hx
        go_simp
        go_at_K; exact hK _ HXX.out)
       rfl)
    refine Bag.walk_nil (fun w4 hx => ?_)
    have HX5 := Lib.hid ((HB1B.out.trans (HX4.out.mono (by omega))).trans (hx.mono (by have := HX4.out.size; omega)))
    clear hx
    rw [HCAT.out]
    go_wp2_with fail
    go_roundw
    case rel => exact ⟨m + 1, by omega, by go_num, rfl, HX5.out⟩
    case measure => simp [intOf]; omega
end Go.Proofs.Ythbfpdkgbkpmiaa
