/- overlayref03.Out: the reference's frame of outputs, in a valid building. No statement of the seat is proved here. -/
import Derived.Test.YthbfpdkgbkpmiaaRefIsOut
import Derived.Test.YthbfpdkgbkpmiaaG34
namespace Go.Proofs.Ythbfpdkgbkpmiaa
open Go.RowKit Frm

set_option maxRecDepth 100000 in
set_option maxHeartbeats 4000000 in
theorem refOut_no (x : BldD) (A : Option Addr) (cap : Nat) (y : Ou) (A' : Option Addr) (cp : Nat) (w : World) (hva : validE x = 0) (hxn : x.cars.length ≤ 140737488355328) (hc : CarsAt w w.heap.size A x.cars) (hn : y.cars.length ≤ 1000) (hy : saneOu y) (hv : CosV w A' y.cars) (hB : isOutB x y = false) :
    Calls Try.prog 17 #[x.agg A cap, ouAgg y A' cp] w fun e w' => e = .returned (.tuple #[.string ⟨#[]⟩, .int .i64 1]) ∧ Below w.heap.size w w' := by
  have F0 := Lib.hid (fun wx (h : Below w.heap.size w wx) => refIsOut_any x A cap y A' cp wx hva hxn ((hc.below h).more h.size) hn hy (hv.below h))
  rw [hB] at F0
  clear hc hv hy hB hva
  obtain ⟨⟨au, ad, su, sd, bad, full, st⟩, ys⟩ := y
  obtain ⟨f, d, r, p, e1, e2, e3, cs⟩ := x
  simp only [BldD.agg, ouAgg] at *
  go_enter Try.func17, Try.ntmps17
  go_wp2_with fail
  obtain ⟨W0, hW0⟩ : ∃ W0, W0 = (w.alloc (.cells #[.int .i64 f, .int .i64 d, .int .i64 r, .int .i64 p, .float .f64 e1, .float .f64 e2, .float .f64 e3, .slice A cs.length cap] 25)).alloc (.cells #[.int .u32 au, .int .u32 ad, .int .u32 su, .int .u32 sd, .bool bad, .bool full, .int .i64 st, .slice A' ys.length cp] 46) := ⟨_, rfl⟩
  rw [← hW0]
  have hs0 : W0.heap.size = w.heap.size + 2 := by rw [hW0]; simp
  have HBW : Hid (Below w.heap.size w W0) := by rw [hW0]; exact ((Below.refl _ _).alloc (Nat.le_refl _) _).alloc (by simp) _
  have HB : Hid (∀ wx, Below W0.heap.size W0 wx → wx.cell? ⟨w.heap.size, 0, none⟩ = some (.int .i64 f) ∧ wx.cell? ⟨w.heap.size, 1, none⟩ = some (.int .i64 d) ∧ wx.cell? ⟨w.heap.size, 2, none⟩ = some (.int .i64 r) ∧ wx.cell? ⟨w.heap.size, 3, none⟩ = some (.int .i64 p) ∧ wx.cell? ⟨w.heap.size, 4, none⟩ = some (.float .f64 e1) ∧ wx.cell? ⟨w.heap.size, 5, none⟩ = some (.float .f64 e2) ∧ wx.cell? ⟨w.heap.size, 6, none⟩ = some (.float .f64 e3) ∧ wx.cell? ⟨w.heap.size, 7, none⟩ = some (.slice A cs.length cap) ∧ wx.cell? ⟨w.heap.size + 1, 0, none⟩ = some (.int .u32 au) ∧ wx.cell? ⟨w.heap.size + 1, 1, none⟩ = some (.int .u32 ad) ∧ wx.cell? ⟨w.heap.size + 1, 2, none⟩ = some (.int .u32 su) ∧ wx.cell? ⟨w.heap.size + 1, 3, none⟩ = some (.int .u32 sd) ∧ wx.cell? ⟨w.heap.size + 1, 4, none⟩ = some (.bool bad) ∧ wx.cell? ⟨w.heap.size + 1, 5, none⟩ = some (.bool full) ∧ wx.cell? ⟨w.heap.size + 1, 6, none⟩ = some (.int .i64 st) ∧ wx.cell? ⟨w.heap.size + 1, 7, none⟩ = some (.slice A' ys.length cp)) := fun wx h => by
    have r0 : wx.heap[w.heap.size]? = some (.cells #[.int .i64 f, .int .i64 d, .int .i64 r, .int .i64 p, .float .f64 e1, .float .f64 e2, .float .f64 e3, .slice A cs.length cap] 25 (0, 0)) := (h.block _ (by omega)).trans (by rw [hW0]; exact (Below.heap_alloc _ _ _ (by simp)).trans (heap_alloc_new w _))
    have r1 : wx.heap[w.heap.size + 1]? = some (.cells #[.int .u32 au, .int .u32 ad, .int .u32 su, .int .u32 sd, .bool bad, .bool full, .int .i64 st, .slice A' ys.length cp] 46 (0, 0)) := (h.block _ (by omega)).trans (by
      rw [hW0]
      have h := heap_alloc_new (w.alloc (.cells #[.int .i64 f, .int .i64 d, .int .i64 r, .int .i64 p, .float .f64 e1, .float .f64 e2, .float .f64 e3, .slice A cs.length cap] 25)) (.cells #[.int .u32 au, .int .u32 ad, .int .u32 su, .int .u32 sd, .bool bad, .bool full, .int .i64 st, .slice A' ys.length cp] 46)
      have e : (w.alloc (.cells #[.int .i64 f, .int .i64 d, .int .i64 r, .int .i64 p, .float .f64 e1, .float .f64 e2, .float .f64 e3, .slice A cs.length cap] 25)).heap.size = w.heap.size + 1 := by simp
      rw [e] at h
      exact h)
    exact ⟨cell_of_row _ _ _ _ _ (0, 0) r0, cell_of_row _ _ _ _ _ (0, 0) r0, cell_of_row _ _ _ _ _ (0, 0) r0, cell_of_row _ _ _ _ _ (0, 0) r0, cell_of_row _ _ _ _ _ (0, 0) r0, cell_of_row _ _ _ _ _ (0, 0) r0, cell_of_row _ _ _ _ _ (0, 0) r0, cell_of_row _ _ _ _ _ (0, 0) r0, cell_of_row _ _ _ _ _ (0, 0) r1, cell_of_row _ _ _ _ _ (0, 0) r1, cell_of_row _ _ _ _ _ (0, 0) r1, cell_of_row _ _ _ _ _ (0, 0) r1, cell_of_row _ _ _ _ _ (0, 0) r1, cell_of_row _ _ _ _ _ (0, 0) r1, cell_of_row _ _ _ _ _ (0, 0) r1, cell_of_row _ _ _ _ _ (0, 0) r1⟩
  clear hW0
  refine (F0.out W0 HBW.out).mono ?_
  rintro e w1 ⟨rfl, hb1⟩
  obtain ⟨a0, a1, a2, a3, a4, a5, a6, a7, a8, a9, a10, a11, a12, a13, a14, a15⟩ := HB.out w1 hb1
  have HX := Lib.hid hb1
  clear hb1
  go_wp2_with fail
  go_ret2
  exact ⟨rfl, HBW.out.trans (HX.out.mono (by omega))⟩

/-- The frame up to its cars. -/
def ouHd (C : Nat) (h : OutH) : List UInt8 := numL 90 1 ++ (numL C 1 ++ ((numL h.au 4 ++ numL h.ad 4) ++ ((numL h.su 4 ++ numL h.sd 4) ++ (numL (flg h.flags) 1 ++ numL (m64 h.st) 2))))

set_option maxRecDepth 100000 in
set_option maxHeartbeats 8000000 in
theorem refOut_good (x : BldD) (A : Option Addr) (cap : Nat) (y : Ou) (A' : Option Addr) (cp : Nat) (w : World) (hva : validE x = 0) (hxn : x.cars.length ≤ 1000) (hc : CarsAt w w.heap.size A x.cars) (hn : y.cars.length ≤ 1000) (hy : saneOu y) (hv : CosV w A' y.cars) (hB : isOutB x y = true) :
    Calls Try.prog 17 #[x.agg A cap, ouAgg y A' cp] w fun e w' => e = .returned (.tuple #[.string ⟨(sealL (ouHd x.cars.length y.h ++ y.cars.flatMap coB)).toArray⟩, .int .i64 0]) ∧ Below w.heap.size w w' := by
  have F0 := Lib.hid (fun wx (h : Below w.heap.size w wx) => refIsOut_any x A cap y A' cp wx hva (by omega) ((hc.below h).more h.size) hn hy (hv.below h))
  rw [hB] at F0
  have HV := Lib.hid hv
  have HSC : Hid (∀ c ∈ y.cars, saneCo c) := hy.2
  obtain ⟨⟨hau, had⟩, ⟨hsu, hsd⟩, -⟩ := hy.1
  have hCw : IntKind.u64.wrap (x.cars.length : Int) = (x.cars.length : Int) := by rw [IntKind.wrap_u64]; omega
  have hsw := m64_wrap y.h.st
  clear hc hv hy hB hva
  obtain ⟨T, hT⟩ : ∃ T, T = ouHd x.cars.length y.h := ⟨_, rfl⟩
  rw [← hT]
  unfold ouHd at hT
  have N1 := Lib.hid (fun wx => refNum_any 90 1 wx (by omega))
  have N2 := Lib.hid (fun wx => refNum_any x.cars.length 1 wx (by omega))
  have N3 := Lib.hid (fun wx => refCalls_any y.h.au y.h.ad wx hau had)
  have N4 := Lib.hid (fun wx => refCalls_any y.h.su y.h.sd wx hsu hsd)
  have N5 := Lib.hid (fun g wx (h0 : wx.cell? ⟨g, 0, none⟩ = some (.bool y.h.bad)) (h1 : wx.cell? ⟨g, 1, none⟩ = some (.bool y.h.full)) => show Calls Try.prog 34 #[.slice (some ⟨g, 0, none⟩) 2 2] wx fun e w' => e = .returned (.string ⟨(numL (flg y.h.flags) 1).toArray⟩) ∧ Below wx.heap.size wx w' from refBits_any y.h.flags g 2 wx (by simp [OutH.flags]) (fun j hj => by
      have hj2 : j < 2 := hj
      match j, hj2 with
      | 0, _ => exact h0
      | 1, _ => exact h1))
  have N6 := Lib.hid (fun wx => refNum_any (m64 y.h.st) 2 wx (by omega))
  have hcat : (((((⟨(numL 90 1).toArray⟩ : ByteArray) ++ (⟨(numL x.cars.length 1).toArray⟩ : ByteArray)) ++ (⟨(numL y.h.au 4 ++ numL y.h.ad 4).toArray⟩ : ByteArray)) ++ (⟨(numL y.h.su 4 ++ numL y.h.sd 4).toArray⟩ : ByteArray)) ++ (⟨(numL (flg y.h.flags) 1).toArray⟩ : ByteArray)) ++ (⟨(numL (m64 y.h.st) 2).toArray⟩ : ByteArray) = ⟨T.toArray⟩ := by
    rw [app_bl, app_bl, app_bl, app_bl, app_bl, hT]
    simp only [bytes_u, List.append_assoc]
  have z1 := str_size (numL 90 1)
  have z2 := str_size (numL x.cars.length 1)
  have z3 := str_size (numL y.h.au 4 ++ numL y.h.ad 4)
  have z4 := str_size (numL y.h.su 4 ++ numL y.h.sd 4)
  have z5 := str_size (numL (flg y.h.flags) 1)
  have z6 := str_size (numL (m64 y.h.st) 2)
  simp only [List.length_append, numL_length] at z1 z2 z3 z4 z5 z6
  have HTL : Hid (T.length = 21) := by rw [hT]; show _ = _; simp only [List.length_append, numL_length]
  clear hT
  generalize (⟨(numL 90 1).toArray⟩ : ByteArray) = B1 at *
  generalize (⟨(numL x.cars.length 1).toArray⟩ : ByteArray) = B2 at *
  generalize (⟨(numL y.h.au 4 ++ numL y.h.ad 4).toArray⟩ : ByteArray) = B3 at *
  generalize (⟨(numL y.h.su 4 ++ numL y.h.sd 4).toArray⟩ : ByteArray) = B4 at *
  generalize (⟨(numL (flg y.h.flags) 1).toArray⟩ : ByteArray) = B5 at *
  generalize (⟨(numL (m64 y.h.st) 2).toArray⟩ : ByteArray) = B6 at *
  have HCAT := Lib.hid hcat
  clear hcat
  obtain ⟨⟨au, ad, su, sd, bad, full, st⟩, ys⟩ := y
  obtain ⟨f, d, r, p, e1, e2, e3, cs⟩ := x
  simp only [BldD.agg, ouAgg] at *
  generalize m64 st = ms at *
  go_enter Try.func17, Try.ntmps17
  go_wp2_with fail
  obtain ⟨W0, hW0⟩ : ∃ W0, W0 = (w.alloc (.cells #[.int .i64 f, .int .i64 d, .int .i64 r, .int .i64 p, .float .f64 e1, .float .f64 e2, .float .f64 e3, .slice A cs.length cap] 25)).alloc (.cells #[.int .u32 au, .int .u32 ad, .int .u32 su, .int .u32 sd, .bool bad, .bool full, .int .i64 st, .slice A' ys.length cp] 46) := ⟨_, rfl⟩
  rw [← hW0]
  have hs0 : W0.heap.size = w.heap.size + 2 := by rw [hW0]; simp
  have HBW : Hid (Below w.heap.size w W0) := by rw [hW0]; exact ((Below.refl _ _).alloc (Nat.le_refl _) _).alloc (by simp) _
  have HB : Hid (∀ wx, Below W0.heap.size W0 wx → wx.cell? ⟨w.heap.size, 0, none⟩ = some (.int .i64 f) ∧ wx.cell? ⟨w.heap.size, 1, none⟩ = some (.int .i64 d) ∧ wx.cell? ⟨w.heap.size, 2, none⟩ = some (.int .i64 r) ∧ wx.cell? ⟨w.heap.size, 3, none⟩ = some (.int .i64 p) ∧ wx.cell? ⟨w.heap.size, 4, none⟩ = some (.float .f64 e1) ∧ wx.cell? ⟨w.heap.size, 5, none⟩ = some (.float .f64 e2) ∧ wx.cell? ⟨w.heap.size, 6, none⟩ = some (.float .f64 e3) ∧ wx.cell? ⟨w.heap.size, 7, none⟩ = some (.slice A cs.length cap) ∧ wx.cell? ⟨w.heap.size + 1, 0, none⟩ = some (.int .u32 au) ∧ wx.cell? ⟨w.heap.size + 1, 1, none⟩ = some (.int .u32 ad) ∧ wx.cell? ⟨w.heap.size + 1, 2, none⟩ = some (.int .u32 su) ∧ wx.cell? ⟨w.heap.size + 1, 3, none⟩ = some (.int .u32 sd) ∧ wx.cell? ⟨w.heap.size + 1, 4, none⟩ = some (.bool bad) ∧ wx.cell? ⟨w.heap.size + 1, 5, none⟩ = some (.bool full) ∧ wx.cell? ⟨w.heap.size + 1, 6, none⟩ = some (.int .i64 st) ∧ wx.cell? ⟨w.heap.size + 1, 7, none⟩ = some (.slice A' ys.length cp)) := fun wx h => by
    have r0 : wx.heap[w.heap.size]? = some (.cells #[.int .i64 f, .int .i64 d, .int .i64 r, .int .i64 p, .float .f64 e1, .float .f64 e2, .float .f64 e3, .slice A cs.length cap] 25 (0, 0)) := (h.block _ (by omega)).trans (by rw [hW0]; exact (Below.heap_alloc _ _ _ (by simp)).trans (heap_alloc_new w _))
    have r1 : wx.heap[w.heap.size + 1]? = some (.cells #[.int .u32 au, .int .u32 ad, .int .u32 su, .int .u32 sd, .bool bad, .bool full, .int .i64 st, .slice A' ys.length cp] 46 (0, 0)) := (h.block _ (by omega)).trans (by
      rw [hW0]
      have h := heap_alloc_new (w.alloc (.cells #[.int .i64 f, .int .i64 d, .int .i64 r, .int .i64 p, .float .f64 e1, .float .f64 e2, .float .f64 e3, .slice A cs.length cap] 25)) (.cells #[.int .u32 au, .int .u32 ad, .int .u32 su, .int .u32 sd, .bool bad, .bool full, .int .i64 st, .slice A' ys.length cp] 46)
      have e : (w.alloc (.cells #[.int .i64 f, .int .i64 d, .int .i64 r, .int .i64 p, .float .f64 e1, .float .f64 e2, .float .f64 e3, .slice A cs.length cap] 25)).heap.size = w.heap.size + 1 := by simp
      rw [e] at h
      exact h)
    exact ⟨cell_of_row _ _ _ _ _ (0, 0) r0, cell_of_row _ _ _ _ _ (0, 0) r0, cell_of_row _ _ _ _ _ (0, 0) r0, cell_of_row _ _ _ _ _ (0, 0) r0, cell_of_row _ _ _ _ _ (0, 0) r0, cell_of_row _ _ _ _ _ (0, 0) r0, cell_of_row _ _ _ _ _ (0, 0) r0, cell_of_row _ _ _ _ _ (0, 0) r0, cell_of_row _ _ _ _ _ (0, 0) r1, cell_of_row _ _ _ _ _ (0, 0) r1, cell_of_row _ _ _ _ _ (0, 0) r1, cell_of_row _ _ _ _ _ (0, 0) r1, cell_of_row _ _ _ _ _ (0, 0) r1, cell_of_row _ _ _ _ _ (0, 0) r1, cell_of_row _ _ _ _ _ (0, 0) r1, cell_of_row _ _ _ _ _ (0, 0) r1⟩
  clear hW0
  refine (F0.out W0 HBW.out).mono ?_
  rintro e w1 ⟨rfl, hb1⟩
  obtain ⟨a0, a1, a2, a3, a4, a5, a6, a7, a8, a9, a10, a11, a12, a13, a14, a15⟩ := HB.out w1 hb1
  have HX := Lib.hid hb1
  clear hb1
  go_wp2_with fail
  clear a0 a1 a2 a3 a4 a5 a6 a7 a8 a9 a10 a11 a12 a13 a14 a15
  have HB2 : Hid (∀ wx, Below w1.heap.size w1 wx → wx.cell? ⟨w.heap.size, 0, none⟩ = some (.int .i64 f) ∧ wx.cell? ⟨w.heap.size, 1, none⟩ = some (.int .i64 d) ∧ wx.cell? ⟨w.heap.size, 2, none⟩ = some (.int .i64 r) ∧ wx.cell? ⟨w.heap.size, 3, none⟩ = some (.int .i64 p) ∧ wx.cell? ⟨w.heap.size, 4, none⟩ = some (.float .f64 e1) ∧ wx.cell? ⟨w.heap.size, 5, none⟩ = some (.float .f64 e2) ∧ wx.cell? ⟨w.heap.size, 6, none⟩ = some (.float .f64 e3) ∧ wx.cell? ⟨w.heap.size, 7, none⟩ = some (.slice A cs.length cap) ∧ wx.cell? ⟨w.heap.size + 1, 0, none⟩ = some (.int .u32 au) ∧ wx.cell? ⟨w.heap.size + 1, 1, none⟩ = some (.int .u32 ad) ∧ wx.cell? ⟨w.heap.size + 1, 2, none⟩ = some (.int .u32 su) ∧ wx.cell? ⟨w.heap.size + 1, 3, none⟩ = some (.int .u32 sd) ∧ wx.cell? ⟨w.heap.size + 1, 4, none⟩ = some (.bool bad) ∧ wx.cell? ⟨w.heap.size + 1, 5, none⟩ = some (.bool full) ∧ wx.cell? ⟨w.heap.size + 1, 6, none⟩ = some (.int .i64 st) ∧ wx.cell? ⟨w.heap.size + 1, 7, none⟩ = some (.slice A' ys.length cp)) := fun wx h => HB.out wx (HX.out.trans (h.mono HX.out.size))
  refine Ghost.ghost (fun γ L wx => Ghost.Made w1 19 (.cells #[.bool bad, .bool full] 4 (0, 0)) γ L wx) (by kernel_rfl) (by kernel_rfl) (fun γ => ⟨(Below.refl _ _).drew, fun h => absurd h Bool.false_ne_true⟩) ?_
  apply Ghost.walk_const (fun γ => by rfl)
  · intro γ L wx h1 h2 hx K hK
    obtain ⟨a0, a1, a2, a3, a4, a5, a6, a7, a8, a9, a10, a11, a12, a13, a14, a15⟩ := HB2.out wx hx.below
    have HK2 := Lib.hid hK
    have HX := Lib.hid hx
    clear hK h1 h2 hx
    go_simp
    go_at_call 32; refine (N1.out _).mono ?_; rintro e w5 ⟨rfl, hb5⟩; exact HK2.out _ (HX.out.next (by decide) hb5)
  iterate 4
    simp only [Act.put, List.setIfInBounds_toArray, List.set_cons_succ, List.set_cons_zero]
    apply Ghost.walk_const (fun γ => by rfl)
    · intro γ L wx h1 h2 hx K hK
      obtain ⟨a0, a1, a2, a3, a4, a5, a6, a7, a8, a9, a10, a11, a12, a13, a14, a15⟩ := HB2.out wx hx.below
      have HK2 := Lib.hid hK
      have HX := Lib.hid hx
      clear hK h1 h2 hx
      go_simp
      exact HK2.out _ (HX.out.next (by decide) (Below.refl _ _))
  simp only [Act.put, List.setIfInBounds_toArray, List.set_cons_succ, List.set_cons_zero]
  apply Ghost.walk_const (fun γ => by rfl)
  · intro γ L wx h1 h2 hx K hK
    obtain ⟨a0, a1, a2, a3, a4, a5, a6, a7, a8, a9, a10, a11, a12, a13, a14, a15⟩ := HB2.out wx hx.below
    have HK2 := Lib.hid hK
    have HX := Lib.hid hx
    clear hK h1 h2 hx
    go_simp
    go_at_call 32; refine (N2.out _).mono ?_; rintro e w5 ⟨rfl, hb5⟩; exact HK2.out _ (HX.out.next (by decide) hb5)
  iterate 3
    simp only [Act.put, List.setIfInBounds_toArray, List.set_cons_succ, List.set_cons_zero]
    apply Ghost.walk_const (fun γ => by rfl)
    · intro γ L wx h1 h2 hx K hK
      obtain ⟨a0, a1, a2, a3, a4, a5, a6, a7, a8, a9, a10, a11, a12, a13, a14, a15⟩ := HB2.out wx hx.below
      have HK2 := Lib.hid hK
      have HX := Lib.hid hx
      clear hK h1 h2 hx
      go_simp
      exact HK2.out _ (HX.out.next (by decide) (Below.refl _ _))
  simp only [Act.put, List.setIfInBounds_toArray, List.set_cons_succ, List.set_cons_zero]
  apply Ghost.walk_const (fun γ => by rfl)
  · intro γ L wx h1 h2 hx K hK
    obtain ⟨a0, a1, a2, a3, a4, a5, a6, a7, a8, a9, a10, a11, a12, a13, a14, a15⟩ := HB2.out wx hx.below
    have HK2 := Lib.hid hK
    have HX := Lib.hid hx
    clear hK h1 h2 hx
    go_simp
    go_at_call 33; refine (N3.out _).mono ?_; rintro e w5 ⟨rfl, hb5⟩; exact HK2.out _ (HX.out.next (by decide) hb5)
  iterate 3
    simp only [Act.put, List.setIfInBounds_toArray, List.set_cons_succ, List.set_cons_zero]
    apply Ghost.walk_const (fun γ => by rfl)
    · intro γ L wx h1 h2 hx K hK
      obtain ⟨a0, a1, a2, a3, a4, a5, a6, a7, a8, a9, a10, a11, a12, a13, a14, a15⟩ := HB2.out wx hx.below
      have HK2 := Lib.hid hK
      have HX := Lib.hid hx
      clear hK h1 h2 hx
      go_simp
      exact HK2.out _ (HX.out.next (by decide) (Below.refl _ _))
  simp only [Act.put, List.setIfInBounds_toArray, List.set_cons_succ, List.set_cons_zero]
  apply Ghost.walk_const (fun γ => by rfl)
  · intro γ L wx h1 h2 hx K hK
    obtain ⟨a0, a1, a2, a3, a4, a5, a6, a7, a8, a9, a10, a11, a12, a13, a14, a15⟩ := HB2.out wx hx.below
    have HK2 := Lib.hid hK
    have HX := Lib.hid hx
    clear hK h1 h2 hx
    go_simp
    go_at_call 33; refine (N4.out _).mono ?_; rintro e w5 ⟨rfl, hb5⟩; exact HK2.out _ (HX.out.next (by decide) hb5)
  iterate 5
    simp only [Act.put, List.setIfInBounds_toArray, List.set_cons_succ, List.set_cons_zero]
    apply Ghost.walk_const (fun γ => by rfl)
    · intro γ L wx h1 h2 hx K hK
      obtain ⟨a0, a1, a2, a3, a4, a5, a6, a7, a8, a9, a10, a11, a12, a13, a14, a15⟩ := HB2.out wx hx.below
      have HK2 := Lib.hid hK
      have HX := Lib.hid hx
      clear hK h1 h2 hx
      go_simp
      exact HK2.out _ (HX.out.next (by decide) (Below.refl _ _))
  simp only [Act.put, List.setIfInBounds_toArray, List.set_cons_succ, List.set_cons_zero]
  apply Ghost.walk_yes (fun b => .slice (some ⟨b, 0, none⟩) 2 2) (fun γ => by rfl)
  · intro γ L wx h1 h2 hx K hK
    obtain ⟨a0, a1, a2, a3, a4, a5, a6, a7, a8, a9, a10, a11, a12, a13, a14, a15⟩ := HB2.out wx hx.below
    have HK2 := Lib.hid hK
    have HX := Lib.hid hx
    clear hK h1 h2 hx
    go_simp
    exact HK2.out wx.heap.size _ HX.out.make
  simp only [Act.put, List.setIfInBounds_toArray, List.set_cons_succ, List.set_cons_zero]
  apply Ghost.walk_const (fun γ => by rfl)
  · intro γ L wx h1 h2 hx K hK
    obtain ⟨a0, a1, a2, a3, a4, a5, a6, a7, a8, a9, a10, a11, a12, a13, a14, a15⟩ := HB2.out wx hx.below
    have HR := Lib.hid (hx.row (h2 19 (by kernel_rfl))).2
    have HK2 := Lib.hid hK
    have HX := Lib.hid hx
    clear hK h1 h2 hx
    go_simp
    go_at_call 34; refine (N5.out _ _ (cell_of_row _ _ 0 _ _ (0, 0) HR.out) (cell_of_row _ _ 1 _ _ (0, 0) HR.out)).mono ?_; rintro e w5 ⟨rfl, hb5⟩; exact HK2.out _ (HX.out.next (by decide) hb5)
  iterate 4
    simp only [Act.put, List.setIfInBounds_toArray, List.set_cons_succ, List.set_cons_zero]
    apply Ghost.walk_const (fun γ => by rfl)
    · intro γ L wx h1 h2 hx K hK
      obtain ⟨a0, a1, a2, a3, a4, a5, a6, a7, a8, a9, a10, a11, a12, a13, a14, a15⟩ := HB2.out wx hx.below
      have HK2 := Lib.hid hK
      have HX := Lib.hid hx
      clear hK h1 h2 hx
      go_simp
      exact HK2.out _ (HX.out.next (by decide) (Below.refl _ _))
  simp only [Act.put, List.setIfInBounds_toArray, List.set_cons_succ, List.set_cons_zero]
  apply Ghost.walk_const (fun γ => by rfl)
  · intro γ L wx h1 h2 hx K hK
    obtain ⟨a0, a1, a2, a3, a4, a5, a6, a7, a8, a9, a10, a11, a12, a13, a14, a15⟩ := HB2.out wx hx.below
    have HK2 := Lib.hid hK
    have HX := Lib.hid hx
    clear hK h1 h2 hx
    go_simp
    go_at_call 32; refine (N6.out _).mono ?_; rintro e w5 ⟨rfl, hb5⟩; exact HK2.out _ (HX.out.next (by decide) hb5)
  iterate 2
    simp only [Act.put, List.setIfInBounds_toArray, List.set_cons_succ, List.set_cons_zero]
    apply Ghost.walk_const (fun γ => by rfl)
    · intro γ L wx h1 h2 hx K hK
      obtain ⟨a0, a1, a2, a3, a4, a5, a6, a7, a8, a9, a10, a11, a12, a13, a14, a15⟩ := HB2.out wx hx.below
      have HK2 := Lib.hid hK
      have HX := Lib.hid hx
      clear hK h1 h2 hx
      go_simp
      exact HK2.out _ (HX.out.next (by decide) (Below.refl _ _))
  simp only [Act.put, List.setIfInBounds_toArray, List.set_cons_succ, List.set_cons_zero]
  refine Ghost.walk_nil (fun γ L w3 hall hx => ?_)
  clear hall
  have HX3 := Lib.hid (HX.out.trans (hx.below.mono HX.out.size))
  clear hx
  rw [HCAT.out]
  clear N1 N2 N3 N4 N5 N6 HCAT z1 z2 z3 z4 z5 z6 HB2
  generalize γ _ = gb0
  go_wp2_with fail
  go_loopw [6, 7] (fun v6 v7 wr => ∃ m : Nat, m ≤ ys.length ∧ v7 = .int .i64 m ∧ v6 = .string ⟨(T ++ (ys.take m).flatMap coB).toArray⟩ ∧ Below W0.heap.size W0 wr) (fun _ v _ => ys.length - (intOf v).toNat)
  case atStart => exact ⟨0, Nat.zero_le _, rfl, by simp, HX3.out⟩
  case round =>
    obtain ⟨m, hm, rfl, rfl, hbr⟩ := hrel
    have hs0r : W0.heap.size ≤ wr.heap.size := hbr.size
    obtain ⟨a0, a1, a2, a3, a4, a5, a6, a7, a8, a9, a10, a11, a12, a13, a14, a15⟩ := HB.out wr hbr
    have HBR := Lib.hid hbr
    clear hbr
    rcases Nat.lt_or_ge m ys.length with hlt | hge
    case inr =>
      obtain rfl : m = ys.length := by omega
      rw [List.take_length]
      have hz : (⟨(T ++ ys.flatMap coB).toArray⟩ : ByteArray).size ≤ 1000000 := by
        rw [str_size, List.length_append, HTL.out, flat_length coB_length]; omega
      have hbl : Hid (bl ⟨(T ++ ys.flatMap coB).toArray⟩ = T ++ ys.flatMap coB) := by
        show _ = _
        unfold bl; rfl
      generalize (⟨(T ++ ys.flatMap coB).toArray⟩ : ByteArray) = S at *
      have SEAL := Lib.hid (fun wx => refSeal_any S wx hz)
      rw [hbl.out] at SEAL
      clear hz hbl
      go_wp2_with fail
      refine (SEAL.out _).mono ?_
      rintro e w5 ⟨rfl, hb5⟩
      have HX5 := Lib.hid ((HBW.out.trans (HBR.out.mono (by omega))).trans (hb5.mono (by have := HBR.out.size; have := HBW.out.size; omega)))
      clear hb5
      go_wp2_with fail
      go_ret2
      exact ⟨rfl, HX5.out⟩
    have hbwr := HBW.out.trans (HBR.out.mono (by omega))
    rcases HV.out.below hbwr with h0 | ⟨b, off, rfl, hv⟩
    · subst h0; simp at hlt
    have g := hv m hlt
    have hsc := HSC.out ys[m] (List.getElem_mem hlt)
    have hnx : (ys.take (m + 1)).flatMap coB = (ys.take m).flatMap coB ++ coB ys[m] := by
      rw [List.take_succ_eq_append_getElem hlt, List.flatMap_append]; simp
    have hfl : ((ys.take m).flatMap coB).length = m * 19 := by rw [flat_length coB_length, List.length_take, Nat.min_eq_left (by omega)]
    clear hbwr hv
    generalize ys[m] = c at g hsc hnx
    have hzs : (⟨(T ++ (ys.take m).flatMap coB).toArray⟩ : ByteArray).size = 21 + m * 19 := by rw [str_size, List.length_append, HTL.out, hfl]
    have hcat : ((((((⟨(T ++ (ys.take m).flatMap coB).toArray⟩ : ByteArray) ++ (⟨(numL c.iu 4 ++ numL c.id 4).toArray⟩ : ByteArray)) ++ (⟨(numL c.lu 4 ++ numL c.ld 4).toArray⟩ : ByteArray)) ++ (⟨(numL (flg c.flags) 1).toArray⟩ : ByteArray)) ++ (⟨(numL (m64 c.cmd) 1).toArray⟩ : ByteArray)) ++ (⟨(numL (m64 c.ph) 1).toArray⟩ : ByteArray)) = ⟨(T ++ (ys.take (m + 1)).flatMap coB).toArray⟩ := by
      rw [app_bl, app_bl, app_bl, app_bl, app_bl, hnx]
      simp only [bytes_u, List.append_assoc, coB]
    have N1 := Lib.hid (fun wx => refCalls_any c.iu c.id wx hsc.1.1 hsc.1.2)
    have N2 := Lib.hid (fun wx => refCalls_any c.lu c.ld wx hsc.2.1.1 hsc.2.1.2)
    have N3 := Lib.hid (fun g wx (h0 : wx.cell? ⟨g, 0, none⟩ = some (.bool c.cut)) (h1 : wx.cell? ⟨g, 1, none⟩ = some (.bool c.gong)) (h2 : wx.cell? ⟨g, 2, none⟩ = some (.bool c.flag)) => show Calls Try.prog 34 #[.slice (some ⟨g, 0, none⟩) 3 3] wx fun e w' => e = .returned (.string ⟨(numL (flg c.flags) 1).toArray⟩) ∧ Below wx.heap.size wx w' from refBits_any c.flags g 3 wx (by simp [CarOut.flags]) (fun j hj => by
      have hj3 : j < 3 := hj
      match j, hj3 with
      | 0, _ => exact h0
      | 1, _ => exact h1
      | 2, _ => exact h2))
    have N4 := Lib.hid (fun wx => refNum_any (m64 c.cmd) 1 wx (by omega))
    have N5 := Lib.hid (fun wx => refNum_any (m64 c.ph) 1 wx (by omega))
    have z1 := str_size (numL c.iu 4 ++ numL c.id 4)
    have z2 := str_size (numL c.lu 4 ++ numL c.ld 4)
    have z3 := str_size (numL (flg c.flags) 1)
    have z4 := str_size (numL (m64 c.cmd) 1)
    have z5 := str_size (numL (m64 c.ph) 1)
    simp only [List.length_append, numL_length] at z1 z2 z3 z4 z5
    generalize (⟨(T ++ (ys.take m).flatMap coB).toArray⟩ : ByteArray) = S at *
    generalize (⟨(numL c.iu 4 ++ numL c.id 4).toArray⟩ : ByteArray) = B1 at *
    generalize (⟨(numL c.lu 4 ++ numL c.ld 4).toArray⟩ : ByteArray) = B2 at *
    generalize (⟨(numL (flg c.flags) 1).toArray⟩ : ByteArray) = B3 at *
    generalize (⟨(numL (m64 c.cmd) 1).toArray⟩ : ByteArray) = B4 at *
    generalize (⟨(numL (m64 c.ph) 1).toArray⟩ : ByteArray) = B5 at *
    have HCAT := Lib.hid hcat
    have no1 : ¬ 9223372036854775807 < 21 + m * 19 + 8 := by omega
    have no2 : ¬ 9223372036854775807 < 21 + m * 19 + 8 + 8 := by omega
    have no3 : ¬ 9223372036854775807 < 21 + m * 19 + 8 + 8 + 1 := by omega
    have no4 : ¬ 9223372036854775807 < 21 + m * 19 + 8 + 8 + 1 + 1 := by omega
    have no5 : ¬ 9223372036854775807 < 21 + m * 19 + 8 + 8 + 1 + 1 + 1 := by omega
    have no1' : ¬ 9223372036854775807 < 21 + m * 19 + (4 + 4) := by omega
    have no2' : ¬ 9223372036854775807 < 21 + m * 19 + (4 + 4) + (4 + 4) := by omega
    have hfw := m64_wrap c.cmd
    have hdw := m64_wrap c.ph
    clear hcat hnx hfl
    have g0 : wr.cell? ⟨b, off + m * 9, none⟩ = some (.int .u32 c.iu) := g 0 _ rfl
    have g1 : wr.cell? ⟨b, off + m * 9 + 1, none⟩ = some (.int .u32 c.id) := g 1 _ rfl
    have g2 : wr.cell? ⟨b, off + m * 9 + 2, none⟩ = some (.bool c.cut) := g 2 _ rfl
    have g3 : wr.cell? ⟨b, off + m * 9 + 3, none⟩ = some (.int .u32 c.lu) := g 3 _ rfl
    have g4 : wr.cell? ⟨b, off + m * 9 + 4, none⟩ = some (.int .u32 c.ld) := g 4 _ rfl
    have g5 : wr.cell? ⟨b, off + m * 9 + 5, none⟩ = some (.bool c.gong) := g 5 _ rfl
    have g6 : wr.cell? ⟨b, off + m * 9 + 6, none⟩ = some (.int .i64 c.cmd) := g 6 _ rfl
    have g7 : wr.cell? ⟨b, off + m * 9 + 7, none⟩ = some (.int .i64 c.ph) := g 7 _ rfl
    have g8 : wr.cell? ⟨b, off + m * 9 + 8, none⟩ = some (.bool c.flag) := g 8 _ rfl
    have hbl : b < wr.heap.size := World.block_lt_of_cell? wr _ g0
    clear g
    go_wp2_with fail
    obtain ⟨W1, hW1⟩ : ∃ W1, W1 = wr.alloc (.cells #[.int .u32 c.iu, .int .u32 c.id, .bool c.cut, .int .u32 c.lu, .int .u32 c.ld, .bool c.gong, .int .i64 c.cmd, .int .i64 c.ph, .bool c.flag] 93) := ⟨_, rfl⟩
    rw [← hW1]
    have hs1 : W1.heap.size = wr.heap.size + 1 := by rw [hW1]; simp
    have HB1B : Hid (Below W0.heap.size W0 W1) := by rw [hW1]; exact HBR.out.alloc hs0r _
    have HB1 : Hid (∀ wx, Below W1.heap.size W1 wx → wx.cell? ⟨wr.heap.size, 0, none⟩ = some (.int .u32 c.iu) ∧ wx.cell? ⟨wr.heap.size, 1, none⟩ = some (.int .u32 c.id) ∧ wx.cell? ⟨wr.heap.size, 2, none⟩ = some (.bool c.cut) ∧ wx.cell? ⟨wr.heap.size, 3, none⟩ = some (.int .u32 c.lu) ∧ wx.cell? ⟨wr.heap.size, 4, none⟩ = some (.int .u32 c.ld) ∧ wx.cell? ⟨wr.heap.size, 5, none⟩ = some (.bool c.gong) ∧ wx.cell? ⟨wr.heap.size, 6, none⟩ = some (.int .i64 c.cmd) ∧ wx.cell? ⟨wr.heap.size, 7, none⟩ = some (.int .i64 c.ph) ∧ wx.cell? ⟨wr.heap.size, 8, none⟩ = some (.bool c.flag)) := fun wx h => by
      have r1 : wx.heap[wr.heap.size]? = some (.cells #[.int .u32 c.iu, .int .u32 c.id, .bool c.cut, .int .u32 c.lu, .int .u32 c.ld, .bool c.gong, .int .i64 c.cmd, .int .i64 c.ph, .bool c.flag] 93 (0, 0)) := (h.block _ (by omega)).trans (by rw [hW1]; exact heap_alloc_new wr _)
      exact ⟨cell_of_row _ _ _ _ _ (0, 0) r1, cell_of_row _ _ _ _ _ (0, 0) r1, cell_of_row _ _ _ _ _ (0, 0) r1, cell_of_row _ _ _ _ _ (0, 0) r1, cell_of_row _ _ _ _ _ (0, 0) r1, cell_of_row _ _ _ _ _ (0, 0) r1, cell_of_row _ _ _ _ _ (0, 0) r1, cell_of_row _ _ _ _ _ (0, 0) r1, cell_of_row _ _ _ _ _ (0, 0) r1⟩
    clear hW1 a0 a1 a2 a3 a4 a5 a6 a7 a8 a9 a10 a11 a12 a13 a14 a15 g0 g1 g2 g3 g4 g5 g6 g7 g8
    refine Ghost.ghost (fun γ L wx => Ghost.Made W1 17 (.cells #[.bool c.cut, .bool c.gong, .bool c.flag] 4 (0, 0)) γ L wx) (by kernel_rfl) (by kernel_rfl) (fun γ => ⟨(Below.refl _ _).drew, fun h => absurd h Bool.false_ne_true⟩) ?_
    iterate 4
      apply Ghost.walk_const (fun γ => by rfl)
      · intro γ L wx h1 h2 hx K hK
        obtain ⟨c0, c1, c2, c3, c4, c5, c6, c7, c8⟩ := HB1.out wx hx.below
        have HK2 := Lib.hid hK
        have HX := Lib.hid hx
        clear hK h1 h2 hx
        go_simp
        exact HK2.out _ (HX.out.next (by decide) (Below.refl _ _))
      simp only [Act.put, List.setIfInBounds_toArray, List.set_cons_succ, List.set_cons_zero]
    apply Ghost.walk_const (fun γ => by rfl)
    · intro γ L wx h1 h2 hx K hK
      obtain ⟨c0, c1, c2, c3, c4, c5, c6, c7, c8⟩ := HB1.out wx hx.below
      have HK2 := Lib.hid hK
      have HX := Lib.hid hx
      clear hK h1 h2 hx
      go_simp
      go_at_call 33; refine (N1.out _).mono ?_; rintro e w5 ⟨rfl, hb5⟩; exact HK2.out _ (HX.out.next (by decide) hb5)
    iterate 3
      simp only [Act.put, List.setIfInBounds_toArray, List.set_cons_succ, List.set_cons_zero]
      apply Ghost.walk_const (fun γ => by rfl)
      · intro γ L wx h1 h2 hx K hK
        obtain ⟨c0, c1, c2, c3, c4, c5, c6, c7, c8⟩ := HB1.out wx hx.below
        have HK2 := Lib.hid hK
        have HX := Lib.hid hx
        clear hK h1 h2 hx
        go_simp
        exact HK2.out _ (HX.out.next (by decide) (Below.refl _ _))
    simp only [Act.put, List.setIfInBounds_toArray, List.set_cons_succ, List.set_cons_zero]
    apply Ghost.walk_const (fun γ => by rfl)
    · intro γ L wx h1 h2 hx K hK
      obtain ⟨c0, c1, c2, c3, c4, c5, c6, c7, c8⟩ := HB1.out wx hx.below
      have HK2 := Lib.hid hK
      have HX := Lib.hid hx
      clear hK h1 h2 hx
      go_simp
      go_at_call 33; refine (N2.out _).mono ?_; rintro e w5 ⟨rfl, hb5⟩; exact HK2.out _ (HX.out.next (by decide) hb5)
    iterate 8
      simp only [Act.put, List.setIfInBounds_toArray, List.set_cons_succ, List.set_cons_zero]
      apply Ghost.walk_const (fun γ => by rfl)
      · intro γ L wx h1 h2 hx K hK
        obtain ⟨c0, c1, c2, c3, c4, c5, c6, c7, c8⟩ := HB1.out wx hx.below
        have HK2 := Lib.hid hK
        have HX := Lib.hid hx
        clear hK h1 h2 hx
        go_simp
        exact HK2.out _ (HX.out.next (by decide) (Below.refl _ _))
    simp only [Act.put, List.setIfInBounds_toArray, List.set_cons_succ, List.set_cons_zero]
    apply Ghost.walk_yes (fun b => .slice (some ⟨b, 0, none⟩) 3 3) (fun γ => by rfl)
    · intro γ L wx h1 h2 hx K hK
      obtain ⟨c0, c1, c2, c3, c4, c5, c6, c7, c8⟩ := HB1.out wx hx.below
      have HK2 := Lib.hid hK
      have HX := Lib.hid hx
      clear hK h1 h2 hx
      go_simp
      exact HK2.out wx.heap.size _ HX.out.make
    simp only [Act.put, List.setIfInBounds_toArray, List.set_cons_succ, List.set_cons_zero]
    apply Ghost.walk_const (fun γ => by rfl)
    · intro γ L wx h1 h2 hx K hK
      obtain ⟨c0, c1, c2, c3, c4, c5, c6, c7, c8⟩ := HB1.out wx hx.below
      have HR := Lib.hid (hx.row (h2 17 (by kernel_rfl))).2
      have HK2 := Lib.hid hK
      have HX := Lib.hid hx
      clear hK h1 h2 hx
      go_simp
      go_at_call 34; refine (N3.out _ _ (cell_of_row _ _ 0 _ _ (0, 0) HR.out) (cell_of_row _ _ 1 _ _ (0, 0) HR.out) (cell_of_row _ _ 2 _ _ (0, 0) HR.out)).mono ?_; rintro e w5 ⟨rfl, hb5⟩; exact HK2.out _ (HX.out.next (by decide) hb5)
    iterate 4
      simp only [Act.put, List.setIfInBounds_toArray, List.set_cons_succ, List.set_cons_zero]
      apply Ghost.walk_const (fun γ => by rfl)
      · intro γ L wx h1 h2 hx K hK
        obtain ⟨c0, c1, c2, c3, c4, c5, c6, c7, c8⟩ := HB1.out wx hx.below
        have HK2 := Lib.hid hK
        have HX := Lib.hid hx
        clear hK h1 h2 hx
        go_simp
        exact HK2.out _ (HX.out.next (by decide) (Below.refl _ _))
    simp only [Act.put, List.setIfInBounds_toArray, List.set_cons_succ, List.set_cons_zero]
    apply Ghost.walk_const (fun γ => by rfl)
    · intro γ L wx h1 h2 hx K hK
      obtain ⟨c0, c1, c2, c3, c4, c5, c6, c7, c8⟩ := HB1.out wx hx.below
      have HK2 := Lib.hid hK
      have HX := Lib.hid hx
      clear hK h1 h2 hx
      go_simp
      go_at_call 32; refine (N4.out _).mono ?_; rintro e w5 ⟨rfl, hb5⟩; exact HK2.out _ (HX.out.next (by decide) hb5)
    iterate 4
      simp only [Act.put, List.setIfInBounds_toArray, List.set_cons_succ, List.set_cons_zero]
      apply Ghost.walk_const (fun γ => by rfl)
      · intro γ L wx h1 h2 hx K hK
        obtain ⟨c0, c1, c2, c3, c4, c5, c6, c7, c8⟩ := HB1.out wx hx.below
        have HK2 := Lib.hid hK
        have HX := Lib.hid hx
        clear hK h1 h2 hx
        go_simp
        exact HK2.out _ (HX.out.next (by decide) (Below.refl _ _))
    simp only [Act.put, List.setIfInBounds_toArray, List.set_cons_succ, List.set_cons_zero]
    apply Ghost.walk_const (fun γ => by rfl)
    · intro γ L wx h1 h2 hx K hK
      obtain ⟨c0, c1, c2, c3, c4, c5, c6, c7, c8⟩ := HB1.out wx hx.below
      have HK2 := Lib.hid hK
      have HX := Lib.hid hx
      clear hK h1 h2 hx
      go_simp
      go_at_call 32; refine (N5.out _).mono ?_; rintro e w5 ⟨rfl, hb5⟩; exact HK2.out _ (HX.out.next (by decide) hb5)
    iterate 2
      simp only [Act.put, List.setIfInBounds_toArray, List.set_cons_succ, List.set_cons_zero]
      apply Ghost.walk_const (fun γ => by rfl)
      · intro γ L wx h1 h2 hx K hK
        obtain ⟨c0, c1, c2, c3, c4, c5, c6, c7, c8⟩ := HB1.out wx hx.below
        have HK2 := Lib.hid hK
        have HX := Lib.hid hx
        clear hK h1 h2 hx
        go_simp
        exact HK2.out _ (HX.out.next (by decide) (Below.refl _ _))
    simp only [Act.put, List.setIfInBounds_toArray, List.set_cons_succ, List.set_cons_zero]
    refine Ghost.walk_nil (fun γ L w3 hall hx => ?_)
    clear hall
    have HX5 := Lib.hid (HB1B.out.trans (hx.below.mono (by have := HB1B.out.size; omega)))
    clear hx
    rw [HCAT.out]
    generalize γ _ = gb1
    go_wp2_with fail
    go_roundw
    case rel => exact ⟨m + 1, by omega, by go_num, rfl, HX5.out⟩
    case measure => simp [intOf]; omega
end Go.Proofs.Ythbfpdkgbkpmiaa
