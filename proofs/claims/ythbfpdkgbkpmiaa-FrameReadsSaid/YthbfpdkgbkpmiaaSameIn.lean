/- The reference's SameIn, of equal inputs. No statement of the seat is proved here. -/
import Derived.Test.YthbfpdkgbkpmiaaReadIn
import Derived.Test.YthbfpdkgbkpmiaaG15
namespace Go.Proofs.Ythbfpdkgbkpmiaa
open Go.RowKit Frm

set_option maxRecDepth 100000 in
set_option maxHeartbeats 4000000 in
theorem sameIn_any (y : In) (A A' : Option Addr) (cp cp' : Nat) (w : World) (hn : y.cars.length ≤ 1000) (hA : CarsV w A y.cars) (hA' : CarsV w A' y.cars) :
    Calls Try.prog 14 #[inAgg y A cp, inAgg y A' cp'] w fun e w' => e = .returned (.bool true) ∧ Below w.heap.size w w' := by
  obtain ⟨pu, pd, kind, car, cs⟩ := y
  simp only [inAgg] at *
  have HA := Lib.hid hA
  have HA' := Lib.hid hA'
  clear hA hA'
  go_enter Try.func14, Try.ntmps14
  go_wp2_with fail
  obtain ⟨W2, hW2⟩ : ∃ W2, W2 = (w.alloc (.cells #[.int .u32 pu, .int .u32 pd, .int .i64 kind, .int .i64 car, .slice A cs.length cp] 33)).alloc (.cells #[.int .u32 pu, .int .u32 pd, .int .i64 kind, .int .i64 car, .slice A' cs.length cp'] 33) := ⟨_, rfl⟩
  rw [← hW2]
  have hs2 : W2.heap.size = w.heap.size + 2 := by rw [hW2]; simp
  have hbw2 : Below w.heap.size w W2 := by rw [hW2]; exact ((Below.refl _ _).alloc (Nat.le_refl _) _).alloc (by simp) _
  have hq0 : W2.cell? ⟨w.heap.size, 4, none⟩ = some (.slice A cs.length cp) := by
    rw [hW2, World.cell?_of_block (w := w.alloc _) (Below.heap_alloc _ _ w.heap.size (by simp)), cell_of_row _ _ _ _ _ (0, 0) (heap_alloc_new w _)]
    rfl
  have hq1 : W2.cell? ⟨w.heap.size + 1, 4, none⟩ = some (.slice A' cs.length cp') := by
    rw [hW2, World.cell?_alloc_at _ _ _ _ (by simp)]
    rfl
  have HQ0 := Lib.hid hq0
  have HQ1 := Lib.hid hq1
  have HBW := Lib.hid hbw2
  clear hW2 hq0 hq1 hbw2
  go_loopw [5] (fun v wr => ∃ m : Nat, m ≤ cs.length ∧ v = .int .i64 m ∧ Below W2.heap.size W2 wr) (fun v _ => cs.length - (intOf v).toNat)
  case atStart => exact ⟨0, Nat.zero_le _, rfl, Below.refl _ _⟩
  case round =>
    obtain ⟨m, hm, rfl, hbr⟩ := hrel
    have q0 : wr.cell? ⟨w.heap.size, 4, none⟩ = some (.slice A cs.length cp) := (hbr.cell (p := ⟨w.heap.size, 4, none⟩) (by show w.heap.size < _; omega)).trans HQ0.out
    have q1 : wr.cell? ⟨w.heap.size + 1, 4, none⟩ = some (.slice A' cs.length cp') := (hbr.cell (p := ⟨w.heap.size + 1, 4, none⟩) (by show w.heap.size + 1 < _; omega)).trans HQ1.out
    by_cases hlt : m < cs.length
    · have hbwr := HBW.out.trans (hbr.mono (by omega))
      rcases HA.out.below hbwr with h0 | ⟨b, off, rfl, hv⟩
      · subst h0; simp at hlt
      rcases HA'.out.below hbwr with h0 | ⟨b', off', rfl, hv'⟩
      · subst h0; simp at hlt
      have g := hv m hlt
      have g' := hv' m hlt
      generalize cs[m] = c at g g'
      have g0 : wr.cell? ⟨b, off + m * 11, none⟩ = some (.int .u32 c.floors) := g 0 _ rfl
      have g1 : wr.cell? ⟨b, off + m * 11 + 1, none⟩ = some (.bool c.up) := g 1 _ rfl
      have g2 : wr.cell? ⟨b, off + m * 11 + 2, none⟩ = some (.bool c.down) := g 2 _ rfl
      have g3 : wr.cell? ⟨b, off + m * 11 + 3, none⟩ = some (.bool c.opened) := g 3 _ rfl
      have g4 : wr.cell? ⟨b, off + m * 11 + 4, none⟩ = some (.bool c.closed) := g 4 _ rfl
      have g5 : wr.cell? ⟨b, off + m * 11 + 5, none⟩ = some (.int .i64 c.floor) := g 5 _ rfl
      have g6 : wr.cell? ⟨b, off + m * 11 + 6, none⟩ = some (.bool c.level) := g 6 _ rfl
      have g7 : wr.cell? ⟨b, off + m * 11 + 7, none⟩ = some (.int .i64 c.door) := g 7 _ rfl
      have g8 : wr.cell? ⟨b, off + m * 11 + 8, none⟩ = some (.bool c.block) := g 8 _ rfl
      have g9 : wr.cell? ⟨b, off + m * 11 + 9, none⟩ = some (.int .u32 c.calls) := g 9 _ rfl
      have g10 : wr.cell? ⟨b, off + m * 11 + 10, none⟩ = some (.float .f64 c.load) := g 10 _ rfl
      have k0 : wr.cell? ⟨b', off' + m * 11, none⟩ = some (.int .u32 c.floors) := g' 0 _ rfl
      have k1 : wr.cell? ⟨b', off' + m * 11 + 1, none⟩ = some (.bool c.up) := g' 1 _ rfl
      have k2 : wr.cell? ⟨b', off' + m * 11 + 2, none⟩ = some (.bool c.down) := g' 2 _ rfl
      have k3 : wr.cell? ⟨b', off' + m * 11 + 3, none⟩ = some (.bool c.opened) := g' 3 _ rfl
      have k4 : wr.cell? ⟨b', off' + m * 11 + 4, none⟩ = some (.bool c.closed) := g' 4 _ rfl
      have k5 : wr.cell? ⟨b', off' + m * 11 + 5, none⟩ = some (.int .i64 c.floor) := g' 5 _ rfl
      have k6 : wr.cell? ⟨b', off' + m * 11 + 6, none⟩ = some (.bool c.level) := g' 6 _ rfl
      have k7 : wr.cell? ⟨b', off' + m * 11 + 7, none⟩ = some (.int .i64 c.door) := g' 7 _ rfl
      have k8 : wr.cell? ⟨b', off' + m * 11 + 8, none⟩ = some (.bool c.block) := g' 8 _ rfl
      have k9 : wr.cell? ⟨b', off' + m * 11 + 9, none⟩ = some (.int .u32 c.calls) := g' 9 _ rfl
      have k10 : wr.cell? ⟨b', off' + m * 11 + 10, none⟩ = some (.float .f64 c.load) := g' 10 _ rfl
      have HBR := Lib.hid hbr
      clear hbr hbwr hv hv' g g'
      have hb1 : b < wr.heap.size := World.block_lt_of_cell? wr _ g0
      have hb2 : b' < wr.heap.size := World.block_lt_of_cell? wr _ k0
      have hb3 : w.heap.size < wr.heap.size := World.block_lt_of_cell? wr _ q0
      have hb4 : w.heap.size + 1 < wr.heap.size := World.block_lt_of_cell? wr _ q1
      have hb5 : b < wr.heap.size + 1 := by omega
      have hb6 : b' < wr.heap.size + 1 := by omega
      have hb7 : w.heap.size < wr.heap.size + 1 := by omega
      have hb8 : w.heap.size + 1 < wr.heap.size + 1 := by omega
      go_wp2_with fail
      go_region
      all_goals
        obtain ⟨W5, hW5⟩ : ∃ W5, W5 = ((wr.alloc (.cells #[.int .u32 c.floors, .bool c.up, .bool c.down, .bool c.opened, .bool c.closed, .int .i64 c.floor, .bool c.level, .int .i64 c.door, .bool c.block, .int .u32 c.calls, .float .f64 c.load] 71)).alloc (.cells #[.int .u32 c.floors, .bool c.up, .bool c.down, .bool c.opened, .bool c.closed, .int .i64 c.floor, .bool c.level, .int .i64 c.door, .bool c.block, .int .u32 c.calls, .float .f64 c.load] 71)).drew := ⟨_, rfl⟩
        rw [← hW5]
        have hs5 : W5.heap.size = wr.heap.size + 2 := by rw [hW5]; simp [World.drew]
        have hb15 : Below wr.heap.size wr W5 := by rw [hW5]; exact (((Below.refl _ _).alloc (Nat.le_refl _) _).alloc (by simp) _).drew
        have hr0 : W5.heap[wr.heap.size]? = some (.cells #[.int .u32 c.floors, .bool c.up, .bool c.down, .bool c.opened, .bool c.closed, .int .i64 c.floor, .bool c.level, .int .i64 c.door, .bool c.block, .int .u32 c.calls, .float .f64 c.load] 71 (0, 0)) := by
          rw [hW5]
          exact (Below.heap_alloc (wr.alloc _) _ wr.heap.size (by simp)).trans (heap_alloc_new wr _)
        have hr1 : W5.heap[wr.heap.size + 1]? = some (.cells #[.int .u32 c.floors, .bool c.up, .bool c.down, .bool c.opened, .bool c.closed, .int .i64 c.floor, .bool c.level, .int .i64 c.door, .bool c.block, .int .u32 c.calls, .float .f64 c.load] 71 (0, 0)) := by
          rw [hW5]
          have h := heap_alloc_new (wr.alloc (.cells #[.int .u32 c.floors, .bool c.up, .bool c.down, .bool c.opened, .bool c.closed, .int .i64 c.floor, .bool c.level, .int .i64 c.door, .bool c.block, .int .u32 c.calls, .float .f64 c.load] 71)) (.cells #[.int .u32 c.floors, .bool c.up, .bool c.down, .bool c.opened, .bool c.closed, .int .i64 c.floor, .bool c.level, .int .i64 c.door, .bool c.block, .int .u32 c.calls, .float .f64 c.load] 71)
          have e : (wr.alloc (.cells #[.int .u32 c.floors, .bool c.up, .bool c.down, .bool c.opened, .bool c.closed, .int .i64 c.floor, .bool c.level, .int .i64 c.door, .bool c.block, .int .u32 c.calls, .float .f64 c.load] 71)).heap.size = wr.heap.size + 1 := by simp
          rw [e] at h
          exact h
        have HR0 := Lib.hid hr0
        have HR1 := Lib.hid hr1
        have HB5 := Lib.hid hb15
        have hbt := bits_run c.load
        clear hW5 hr0 hr1 hb15 q0 q1 g0 g1 g2 g3 g4 g5 g6 g7 g8 g9 g10 k0 k1 k2 k3 k4 k5 k6 k7 k8 k9 k10 hb1 hb2 hb3 hb4 hb5 hb6 hb7 hb8
        go_wp2_with fail
        refine Bag.region (fun wx => Below W5.heap.size W5 wx) (by kernel_rfl) (by kernel_rfl) (Below.refl _ _).drew ?_
        iterate 28
          (apply Bag.walk_yes (by rfl)
           (intro wx hx K hK
            have hx0 := (hx.block wr.heap.size (by omega)).trans HR0.out
            have hx1 := (hx.block (wr.heap.size + 1) (by omega)).trans HR1.out
            have e0 : wx.cell? ⟨wr.heap.size, 0, none⟩ = some (.int .u32 c.floors) := cell_of_row _ _ _ _ _ (0, 0) hx0
            have f0 : wx.cell? ⟨wr.heap.size + 1, 0, none⟩ = some (.int .u32 c.floors) := cell_of_row _ _ _ _ _ (0, 0) hx1
            have e1 : wx.cell? ⟨wr.heap.size, 1, none⟩ = some (.bool c.up) := cell_of_row _ _ _ _ _ (0, 0) hx0
            have f1 : wx.cell? ⟨wr.heap.size + 1, 1, none⟩ = some (.bool c.up) := cell_of_row _ _ _ _ _ (0, 0) hx1
            have e2 : wx.cell? ⟨wr.heap.size, 2, none⟩ = some (.bool c.down) := cell_of_row _ _ _ _ _ (0, 0) hx0
            have f2 : wx.cell? ⟨wr.heap.size + 1, 2, none⟩ = some (.bool c.down) := cell_of_row _ _ _ _ _ (0, 0) hx1
            have e3 : wx.cell? ⟨wr.heap.size, 3, none⟩ = some (.bool c.opened) := cell_of_row _ _ _ _ _ (0, 0) hx0
            have f3 : wx.cell? ⟨wr.heap.size + 1, 3, none⟩ = some (.bool c.opened) := cell_of_row _ _ _ _ _ (0, 0) hx1
            have e4 : wx.cell? ⟨wr.heap.size, 4, none⟩ = some (.bool c.closed) := cell_of_row _ _ _ _ _ (0, 0) hx0
            have f4 : wx.cell? ⟨wr.heap.size + 1, 4, none⟩ = some (.bool c.closed) := cell_of_row _ _ _ _ _ (0, 0) hx1
            have e5 : wx.cell? ⟨wr.heap.size, 5, none⟩ = some (.int .i64 c.floor) := cell_of_row _ _ _ _ _ (0, 0) hx0
            have f5 : wx.cell? ⟨wr.heap.size + 1, 5, none⟩ = some (.int .i64 c.floor) := cell_of_row _ _ _ _ _ (0, 0) hx1
            have e6 : wx.cell? ⟨wr.heap.size, 6, none⟩ = some (.bool c.level) := cell_of_row _ _ _ _ _ (0, 0) hx0
            have f6 : wx.cell? ⟨wr.heap.size + 1, 6, none⟩ = some (.bool c.level) := cell_of_row _ _ _ _ _ (0, 0) hx1
            have e7 : wx.cell? ⟨wr.heap.size, 7, none⟩ = some (.int .i64 c.door) := cell_of_row _ _ _ _ _ (0, 0) hx0
            have f7 : wx.cell? ⟨wr.heap.size + 1, 7, none⟩ = some (.int .i64 c.door) := cell_of_row _ _ _ _ _ (0, 0) hx1
            have e8 : wx.cell? ⟨wr.heap.size, 8, none⟩ = some (.bool c.block) := cell_of_row _ _ _ _ _ (0, 0) hx0
            have f8 : wx.cell? ⟨wr.heap.size + 1, 8, none⟩ = some (.bool c.block) := cell_of_row _ _ _ _ _ (0, 0) hx1
            have e9 : wx.cell? ⟨wr.heap.size, 9, none⟩ = some (.int .u32 c.calls) := cell_of_row _ _ _ _ _ (0, 0) hx0
            have f9 : wx.cell? ⟨wr.heap.size + 1, 9, none⟩ = some (.int .u32 c.calls) := cell_of_row _ _ _ _ _ (0, 0) hx1
            have e10 : wx.cell? ⟨wr.heap.size, 10, none⟩ = some (.float .f64 c.load) := cell_of_row _ _ _ _ _ (0, 0) hx0
            have f10 : wx.cell? ⟨wr.heap.size + 1, 10, none⟩ = some (.float .f64 c.load) := cell_of_row _ _ _ _ _ (0, 0) hx1
            have HX := Lib.hid hx
            clear hx hx0 hx1
            go_simp
            go_at_K
            exact hK _ HX.out)
           rfl)
        refine Bag.walk_nil (fun w6 hx => ?_)
        have HX := Lib.hid hx
        clear hx
        go_wp2_with fail
        go_roundw
        case rel => exact ⟨m + 1, by omega, by go_num, HBR.out.trans ((HB5.out.mono HBR.out.size).trans (HX.out.mono (by have := HBR.out.size; omega)))⟩
        case measure => simp [intOf]; omega
    · obtain rfl : m = cs.length := by omega
      have HBR := Lib.hid hbr
      clear hbr
      go_wp2_with fail
      go_ret
      exact ⟨rfl, HBW.out.trans (HBR.out.mono (by omega))⟩
end Go.Proofs.Ythbfpdkgbkpmiaa
