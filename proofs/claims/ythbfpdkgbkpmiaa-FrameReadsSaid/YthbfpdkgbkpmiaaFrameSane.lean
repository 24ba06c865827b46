/- The law's sanity check of frames. No statement of the seat is proved here. -/
import Derived.Test.YthbfpdkgbkpmiaaG21
import Derived.Test.YthbfpdkgbkpmiaaG24
import Derived.Test.YthbfpdkgbkpmiaaSameIn
import Derived.Test.YthbfpdkgbkpmiaaG5
namespace Go.Proofs.Ythbfpdkgbkpmiaa
open Go.RowKit Frm

def carS : CarIn := ⟨0, false, false, false, false, 0, false, 0, false, 0, 9218868437227405312⟩
def inS : In := ⟨1, 0, 0, 0, [carS]⟩
theorem saneS : saneIn inS := ⟨by decide, by decide, ⟨by decide, by decide⟩, ⟨by decide, by decide⟩, fun c hc => by
  simp only [inS, List.mem_singleton] at hc
  subst hc
  exact ⟨by decide, by decide, by decide, ⟨by decide, by decide⟩, by decide, by decide⟩⟩
theorem okS : inOk (sampleD 3 1) inS := by
  have hV := sample_valid 3 1 (by omega) (by omega) (by omega) (by omega)
  have hU : hallUp (sampleD 3 1) = 3 := by unfold hallUp; rw [if_pos hV]; decide
  have hD : hallDown (sampleD 3 1) = 6 := by unfold hallDown; rw [if_pos hV]; decide
  refine ⟨hV, ?_⟩
  rw [hU, hD]
  refine ⟨rfl, ⟨by decide, by decide⟩, ⟨by decide, by decide⟩, fun i h => ?_⟩
  have h1 : i < 1 := h
  obtain rfl : i = 0 := by omega
  exact ⟨by show setB 0 7 = true; decide, by show flg [false, false, false, false, false, false] < 2 ^ 6; decide, by show inB 0 2 0 = true; decide, by show inB 0 2 0 = true; decide, by show setB 0 7 = true; decide⟩

theorem ReadE_no {x : BldD} {s : ByteArray} {code : Int} (h1 : openOkIn x s) (h2 : readOkIn x s) : ¬ ReadE x s code := by
  obtain ⟨a, b, c, d⟩ := h1
  rintro (h | h | h | h | h)
  · exact h.1 a
  · exact h.2.1 b
  · exact h.2.2.1 c
  · rw [h.2.2.2.1] at d; cases d
  · exact h.2.1 h2
theorem ReadE_empty {x : BldD} {code : Int} (hv : validE x = 0) (h : ReadE x ⟨#[]⟩ code) : code = 4 := by
  have hs : ((⟨#[]⟩ : ByteArray).size : Int) ≠ 14 + 19 * (x.cars.length : Int) := by
    have : (⟨#[]⟩ : ByteArray).size = 0 := rfl
    omega
  rcases h with h | h | h | h | h
  · exact absurd hv h.1
  · exact h.2.2
  · exact absurd h.2.1 hs
  · exact absurd h.2.1 hs
  · exact absurd h.1.2.1 hs
theorem openOk_empty {x : BldD} : ¬ openOkIn x ⟨#[]⟩ := fun h => by
  have h2 := h.2.1
  have : (⟨#[]⟩ : ByteArray).size = 0 := rfl
  omega

set_option maxRecDepth 100000 in
set_option maxHeartbeats 4000000 in
theorem frameSane_any (w : World) : Calls Try.prog 8 #[] w fun e w' => e = .returned (.bool true) ∧ Below w.heap.size w w' := by
  have hV := sample_valid 3 1 (by omega) (by omega) (by omega) (by omega)
  obtain ⟨rd1, rd2, rd3⟩ := frame_read saneS okS
  have HIN := Lib.hid (fun A cap A' wx (hc : CarsAt wx wx.heap.size A (sampleD 3 1).cars) (hv : CarsV wx A' inS.cars) => in_any (sampleD 3 1) A cap inS A' 1 wx (by decide) hc (by decide) saneS hv)
  have HRD := Lib.hid (fun A cap wx (hc : CarsAt wx wx.heap.size A (sampleD 3 1).cars) => readInTop_any (sampleD 3 1) A cap ⟨(inText (sampleD 3 1) inS).toArray⟩ wx (by decide) hc (by unfold maxLen; have h := (bl_len ⟨(inText (sampleD 3 1) inS).toArray⟩); have h2 := rd1.2.1; have h3 : (sampleD 3 1).cars.length = 1 := (by decide); omega))
  have HRE := Lib.hid (fun A cap wx (hc : CarsAt wx wx.heap.size A (sampleD 3 1).cars) => readInTop_any (sampleD 3 1) A cap ⟨#[]⟩ wx (by decide) hc (by decide))
  have hno := fun code => ReadE_no (code := code) rd1 rd2
  have hem := fun code => ReadE_empty (x := sampleD 3 1) (code := code) hV
  have hok := okS
  have HNO := Lib.hid hno
  have HEM := Lib.hid hem
  have HOE := Lib.hid (openOk_empty (x := sampleD 3 1))
  have HOK := Lib.hid hok
  rw [rd3] at HRD
  clear hno hem hok hV
  have HSZ : Hid ((⟨(inText (sampleD 3 1) inS).toArray⟩ : ByteArray).size = 33) := by have := rd1.2.1; have h3 : (sampleD 3 1).cars.length = 1 := (by decide); show _ = _; omega
  have HBY : Hid (∃ r, inText (sampleD 3 1) inS = 165 :: 1 :: r) := ⟨_, rfl⟩
  clear rd1 rd2 rd3
  generalize inText (sampleD 3 1) inS = T at *
  go_enter Try.func8, Try.ntmps8
  go_wp2_with fail
  refine (sample_any 3 1 _ (by omega) (by omega) (by omega)).mono ?_
  rintro e w1 ⟨A, cap, rfl, hcars, hb1, -⟩
  have HC := Lib.hid hcars
  have HB1 := Lib.hid hb1
  clear hcars hb1
  simp only [BldD.agg, sampleD, sampleCars_length] at HIN HRD HRE ⊢
  go_wp2_with fail
  refine (inf_any 1 (by omega) _).mono ?_
  rintro e w1' ⟨rfl, rfl⟩
  go_wp2_with fail
  obtain ⟨W3, hW3⟩ : ∃ W3, W3 = ((w1.alloc (.cells #[.int .i64 3, .int .i64 1, .int .i64 4000, .int .i64 30, .float .f64 4591870180066957722, .float .f64 4605380978949069210, .float .f64 4607632778762754458, .slice A 1 cap] 25)).alloc (.cells #[.int .u32 0, .bool false, .bool false, .bool false, .bool false, .int .i64 0, .bool false, .int .i64 0, .bool false, .int .u32 0, .float .f64 9218868437227405312] 71)).alloc (.cells #[.int .u32 1, .int .u32 0, .int .i64 0, .int .i64 0, .slice (some ⟨w1.heap.size + 1, 0, none⟩) 1 1] 33) := ⟨_, rfl⟩
  rw [← hW3]
  have hs3 : W3.heap.size = w1.heap.size + 3 := by rw [hW3]; simp
  have hbw3 : Below w1.heap.size w1 W3 := by rw [hW3]; exact (((Below.refl _ _).alloc (Nat.le_refl _) _).alloc (by simp) _).alloc (by simp; omega) _
  have hq0 : W3.heap[w1.heap.size]? = some (.cells #[.int .i64 3, .int .i64 1, .int .i64 4000, .int .i64 30, .float .f64 4591870180066957722, .float .f64 4605380978949069210, .float .f64 4607632778762754458, .slice A 1 cap] 25 (0, 0)) := by
    rw [hW3]
    exact (Below.heap_alloc _ _ _ (by simp; omega)).trans ((Below.heap_alloc _ _ _ (by simp)).trans (heap_alloc_new w1 _))
  have hq1 : W3.heap[w1.heap.size + 1]? = some (.cells #[.int .u32 0, .bool false, .bool false, .bool false, .bool false, .int .i64 0, .bool false, .int .i64 0, .bool false, .int .u32 0, .float .f64 9218868437227405312] 71 (0, 0)) := by
    rw [hW3]
    have h := heap_alloc_new (w1.alloc (.cells #[.int .i64 3, .int .i64 1, .int .i64 4000, .int .i64 30, .float .f64 4591870180066957722, .float .f64 4605380978949069210, .float .f64 4607632778762754458, .slice A 1 cap] 25)) (.cells #[.int .u32 0, .bool false, .bool false, .bool false, .bool false, .int .i64 0, .bool false, .int .i64 0, .bool false, .int .u32 0, .float .f64 9218868437227405312] 71)
    have e : (w1.alloc (.cells #[.int .i64 3, .int .i64 1, .int .i64 4000, .int .i64 30, .float .f64 4591870180066957722, .float .f64 4605380978949069210, .float .f64 4607632778762754458, .slice A 1 cap] 25)).heap.size = w1.heap.size + 1 := by simp
    rw [e] at h
    exact (Below.heap_alloc _ _ _ (by simp)).trans h
  have hq2 : W3.heap[w1.heap.size + 2]? = some (.cells #[.int .u32 1, .int .u32 0, .int .i64 0, .int .i64 0, .slice (some ⟨w1.heap.size + 1, 0, none⟩) 1 1] 33 (0, 0)) := by
    rw [hW3]
    have h := heap_alloc_new ((w1.alloc (.cells #[.int .i64 3, .int .i64 1, .int .i64 4000, .int .i64 30, .float .f64 4591870180066957722, .float .f64 4605380978949069210, .float .f64 4607632778762754458, .slice A 1 cap] 25)).alloc (.cells #[.int .u32 0, .bool false, .bool false, .bool false, .bool false, .int .i64 0, .bool false, .int .i64 0, .bool false, .int .u32 0, .float .f64 9218868437227405312] 71)) (.cells #[.int .u32 1, .int .u32 0, .int .i64 0, .int .i64 0, .slice (some ⟨w1.heap.size + 1, 0, none⟩) 1 1] 33)
    have e : ((w1.alloc (.cells #[.int .i64 3, .int .i64 1, .int .i64 4000, .int .i64 30, .float .f64 4591870180066957722, .float .f64 4605380978949069210, .float .f64 4607632778762754458, .slice A 1 cap] 25)).alloc (.cells #[.int .u32 0, .bool false, .bool false, .bool false, .bool false, .int .i64 0, .bool false, .int .i64 0, .bool false, .int .u32 0, .float .f64 9218868437227405312] 71)).heap.size = w1.heap.size + 2 := by simp
    rw [e] at h
    exact h
  have hcv : CarsV W3 (some ⟨w1.heap.size + 1, 0, none⟩) inS.cars := .inr ⟨_, 0, rfl, fun i h j v hj => by
    have h1 : i < 1 := h
    obtain rfl : i = 0 := by omega
    rw [cell_of_row _ _ _ _ _ (0, 0) hq1]
    simpa [inS, carS, carV] using hj⟩
  have HCV := Lib.hid hcv
  have HC3 := Lib.hid ((HC.out.below hbw3).more hbw3.size)
  have HB3 := Lib.hid (HB1.out.trans (hbw3.mono HB1.out.size))
  have HQ0 := Lib.hid hq0
  have HQ2 := Lib.hid hq2
  clear hW3 hbw3 hq0 hq1 hq2 hcv
  refine (HIN.out A cap (some ⟨w1.heap.size + 1, 0, none⟩) W3 HC3.out HCV.out).mono ?_
  rintro e w4 ⟨hb4, ⟨-, rfl⟩ | ⟨h, rfl⟩⟩
  case inr => exact absurd HOK.out h
  have r4 : w4.heap[w1.heap.size]? = some (.cells #[.int .i64 3, .int .i64 1, .int .i64 4000, .int .i64 30, .float .f64 4591870180066957722, .float .f64 4605380978949069210, .float .f64 4607632778762754458, .slice A 1 cap] 25 (0, 0)) := (hb4.block _ (by omega)).trans HQ0.out
  have hs4 : W3.heap.size ≤ w4.heap.size := hb4.size
  have g0 : w4.cell? ⟨w1.heap.size, 0, none⟩ = some (.int .i64 3) := cell_of_row _ _ _ _ _ (0, 0) r4
  have g1 : w4.cell? ⟨w1.heap.size, 1, none⟩ = some (.int .i64 1) := cell_of_row _ _ _ _ _ (0, 0) r4
  have g2 : w4.cell? ⟨w1.heap.size, 2, none⟩ = some (.int .i64 4000) := cell_of_row _ _ _ _ _ (0, 0) r4
  have g3 : w4.cell? ⟨w1.heap.size, 3, none⟩ = some (.int .i64 30) := cell_of_row _ _ _ _ _ (0, 0) r4
  have g4 : w4.cell? ⟨w1.heap.size, 4, none⟩ = some (.float .f64 4591870180066957722) := cell_of_row _ _ _ _ _ (0, 0) r4
  have g5 : w4.cell? ⟨w1.heap.size, 5, none⟩ = some (.float .f64 4605380978949069210) := cell_of_row _ _ _ _ _ (0, 0) r4
  have g6 : w4.cell? ⟨w1.heap.size, 6, none⟩ = some (.float .f64 4607632778762754458) := cell_of_row _ _ _ _ _ (0, 0) r4
  have g7 : w4.cell? ⟨w1.heap.size, 7, none⟩ = some (.slice A 1 cap) := cell_of_row _ _ _ _ _ (0, 0) r4
  have HB4 := Lib.hid hb4
  clear r4 hb4
  go_wp2_with fail
  refine (HRD.out A cap w4 ((HC3.out.below HB4.out).more HB4.out.size)).mono ?_
  clear g0 g1 g2 g3 g4 g5 g6 g7
  rintro e w5 ⟨hb5, ⟨-, -, gy, hcy, rfl⟩ | ⟨code, h, -⟩⟩
  case inr => exact absurd h (HNO.out code)
  have HB5 := Lib.hid (HB4.out.trans (hb5.mono hs4))
  have hs5 : w4.heap.size ≤ w5.heap.size := hb5.size
  have HCY := Lib.hid hcy
  clear hb5 hcy
  have r5 : w5.heap[w1.heap.size]? = some (.cells #[.int .i64 3, .int .i64 1, .int .i64 4000, .int .i64 30, .float .f64 4591870180066957722, .float .f64 4605380978949069210, .float .f64 4607632778762754458, .slice A 1 cap] 25 (0, 0)) := (HB5.out.block _ (by omega)).trans HQ0.out
  have hpast : ∀ o j, (w5.alloc o).cell? ⟨w1.heap.size, j, none⟩ = w5.cell? ⟨w1.heap.size, j, none⟩ := fun o j => World.cell?_of_block (w := w5) (Below.heap_alloc w5 o w1.heap.size (by omega))
  have g0 : w5.cell? ⟨w1.heap.size, 0, none⟩ = some (.int .i64 3) := cell_of_row _ _ _ _ _ (0, 0) r5
  have g1 : w5.cell? ⟨w1.heap.size, 1, none⟩ = some (.int .i64 1) := cell_of_row _ _ _ _ _ (0, 0) r5
  have g2 : w5.cell? ⟨w1.heap.size, 2, none⟩ = some (.int .i64 4000) := cell_of_row _ _ _ _ _ (0, 0) r5
  have g3 : w5.cell? ⟨w1.heap.size, 3, none⟩ = some (.int .i64 30) := cell_of_row _ _ _ _ _ (0, 0) r5
  have g4 : w5.cell? ⟨w1.heap.size, 4, none⟩ = some (.float .f64 4591870180066957722) := cell_of_row _ _ _ _ _ (0, 0) r5
  have g5 : w5.cell? ⟨w1.heap.size, 5, none⟩ = some (.float .f64 4605380978949069210) := cell_of_row _ _ _ _ _ (0, 0) r5
  have g6 : w5.cell? ⟨w1.heap.size, 6, none⟩ = some (.float .f64 4607632778762754458) := cell_of_row _ _ _ _ _ (0, 0) r5
  have g7 : w5.cell? ⟨w1.heap.size, 7, none⟩ = some (.slice A 1 cap) := cell_of_row _ _ _ _ _ (0, 0) r5
  have p0 := fun o => (hpast o 0).trans g0
  have p1 := fun o => (hpast o 1).trans g1
  have p2 := fun o => (hpast o 2).trans g2
  have p3 := fun o => (hpast o 3).trans g3
  have p4 := fun o => (hpast o 4).trans g4
  have p5 := fun o => (hpast o 5).trans g5
  have p6 := fun o => (hpast o 6).trans g6
  have p7 := fun o => (hpast o 7).trans g7
  clear hpast r5
  simp only [inAgg, inS, List.length_cons, List.length_nil]
  go_wp2_with fail
  obtain ⟨W6, hW6⟩ : ∃ W6, W6 = w5.alloc (.cells #[.int .u32 1, .int .u32 0, .int .i64 0, .int .i64 0, .slice (some ⟨gy, 0, none⟩) 1 1] 33) := ⟨_, rfl⟩
  rw [← hW6]
  have hb56 : Below w5.heap.size w5 W6 := by rw [hW6]; exact (Below.refl _ _).alloc (Nat.le_refl _) _
  have hs6 : W6.heap.size = w5.heap.size + 1 := by rw [hW6]; simp
  have hq6 : W6.heap[w5.heap.size]? = some (.cells #[.int .u32 1, .int .u32 0, .int .i64 0, .int .i64 0, .slice (some ⟨gy, 0, none⟩) 1 1] 33 (0, 0)) := by rw [hW6]; exact heap_alloc_new w5 _
  have HB6 := Lib.hid (HB5.out.trans (hb56.mono (by omega)))
  have HB56 := Lib.hid hb56
  have HQ6 := Lib.hid hq6
  clear hW6 hb56 hq6 g0 g1 g2 g3 g4 g5 g6 g7 p0 p1 p2 p3 p4 p5 p6 p7
  refine (HRE.out A cap W6 ((HC3.out.below HB6.out).more HB6.out.size)).mono ?_
  rintro e w7 ⟨hb7, ⟨h, -⟩ | ⟨code, h, -, rfl⟩⟩
  case inl => exact absurd h HOE.out
  obtain rfl := HEM.out code h
  have hs7 : W6.heap.size ≤ w7.heap.size := hb7.size
  have hrx : ∀ o, (w7.alloc o).heap[w1.heap.size + 2]? = some (.cells #[.int .u32 1, .int .u32 0, .int .i64 0, .int .i64 0, .slice (some ⟨w1.heap.size + 1, 0, none⟩) 1 1] 33 (0, 0)) := fun o => (Below.heap_alloc w7 o _ (by omega)).trans ((hb7.block _ (by omega)).trans ((HB6.out.block _ (by omega)).trans HQ2.out))
  have hry : ∀ o, (w7.alloc o).heap[w5.heap.size]? = some (.cells #[.int .u32 1, .int .u32 0, .int .i64 0, .int .i64 0, .slice (some ⟨gy, 0, none⟩) 1 1] 33 (0, 0)) := fun o => (Below.heap_alloc w7 o _ (by omega)).trans ((hb7.block _ (by omega)).trans HQ6.out)
  have x0 : ∀ o, (w7.alloc o).cell? ⟨w1.heap.size + 2, 0, none⟩ = some (.int .u32 1) := fun o => cell_of_row _ _ _ _ _ (0, 0) (hrx o)
  have x1 : ∀ o, (w7.alloc o).cell? ⟨w1.heap.size + 2, 1, none⟩ = some (.int .u32 0) := fun o => cell_of_row _ _ _ _ _ (0, 0) (hrx o)
  have x2 : ∀ o, (w7.alloc o).cell? ⟨w1.heap.size + 2, 2, none⟩ = some (.int .i64 0) := fun o => cell_of_row _ _ _ _ _ (0, 0) (hrx o)
  have x3 : ∀ o, (w7.alloc o).cell? ⟨w1.heap.size + 2, 3, none⟩ = some (.int .i64 0) := fun o => cell_of_row _ _ _ _ _ (0, 0) (hrx o)
  have x4 : ∀ o, (w7.alloc o).cell? ⟨w1.heap.size + 2, 4, none⟩ = some (.slice (some ⟨w1.heap.size + 1, 0, none⟩) 1 1) := fun o => cell_of_row _ _ _ _ _ (0, 0) (hrx o)
  have y0 : ∀ o, (w7.alloc o).cell? ⟨w5.heap.size, 0, none⟩ = some (.int .u32 1) := fun o => cell_of_row _ _ _ _ _ (0, 0) (hry o)
  have y1 : ∀ o, (w7.alloc o).cell? ⟨w5.heap.size, 1, none⟩ = some (.int .u32 0) := fun o => cell_of_row _ _ _ _ _ (0, 0) (hry o)
  have y2 : ∀ o, (w7.alloc o).cell? ⟨w5.heap.size, 2, none⟩ = some (.int .i64 0) := fun o => cell_of_row _ _ _ _ _ (0, 0) (hry o)
  have y3 : ∀ o, (w7.alloc o).cell? ⟨w5.heap.size, 3, none⟩ = some (.int .i64 0) := fun o => cell_of_row _ _ _ _ _ (0, 0) (hry o)
  have y4 : ∀ o, (w7.alloc o).cell? ⟨w5.heap.size, 4, none⟩ = some (.slice (some ⟨gy, 0, none⟩) 1 1) := fun o => cell_of_row _ _ _ _ _ (0, 0) (hry o)
  have HB7 := Lib.hid hb7
  obtain ⟨r, rfl⟩ := HBY.out
  have hsz := HSZ.out
  have hi0 : (((⟨(165 :: 1 :: r).toArray⟩ : ByteArray)[0]'(by rw [hsz]; omega)).toNat : Int) = 165 := rfl
  have hi1 : (((⟨(165 :: 1 :: r).toArray⟩ : ByteArray)[1]'(by rw [hsz]; omega)).toNat : Int) = 1 := rfl
  clear hb7 hrx hry h
  simp only [inAgg, zeroIn, List.length_nil]
  go_wp2_with fail
  have hc7 : Below W6.heap.size W6 (w7.alloc (.cells #[.int .u32 0, .int .u32 0, .int .i64 0, .int .i64 0, .slice none 0 0] 33)) := HB7.out.trans ((Below.refl _ _).alloc (by omega) _)
  have hv1 : CarsV (w7.alloc (.cells #[.int .u32 0, .int .u32 0, .int .i64 0, .int .i64 0, .slice none 0 0] 33)) (some ⟨w1.heap.size + 1, 0, none⟩) inS.cars := HCV.out.below (HB6.out.trans (hc7.mono (by omega)))
  have hv2 : CarsV (w7.alloc (.cells #[.int .u32 0, .int .u32 0, .int .i64 0, .int .i64 0, .slice none 0 0] 33)) (some ⟨gy, 0, none⟩) inS.cars := HCY.out.below (HB56.out.trans (hc7.mono (by omega)))
  refine (sameIn_any inS _ _ 1 1 _ (by decide) hv1 hv2).mono ?_
  rintro e w8 ⟨rfl, hb8⟩
  have HB8 := Lib.hid (HB3.out.trans ((HB6.out.trans ((hc7.mono (by omega)).trans (hb8.mono (by simp; omega)))).mono (by have := HB3.out.size; omega)))
  clear hb8 hc7 hv1 hv2 x0 x1 x2 x3 x4 y0 y1 y2 y3 y4
  go_wp2_with fail
  go_ret
  exact ⟨rfl, HB8.out⟩
end Go.Proofs.Ythbfpdkgbkpmiaa
