/- frame.ReadIn: the inputs of a frame, or the error. No statement of the seat is proved here. -/
import Derived.Test.YthbfpdkgbkpmiaaRdOut
import Derived.Test.YthbfpdkgbkpmiaaReadIn
namespace Go.Proofs.Ythbfpdkgbkpmiaa
open Go.RowKit Frm

/-- The inputs that bytes stand for, if they stand for any. -/
def ouOf (x : BldD) (s : ByteArray) : Ou := Kind.ouR .rd (bodyL s) (noOu x.cars.length)
def zeroOu : Ou := ⟨noOh, []⟩
theorem ouOf_length (x : BldD) (s : ByteArray) : (ouOf x s).cars.length = x.cars.length := by simp [ouOf, Kind.ouR, noOu]

theorem CosV.far {w w' : World} {g : Nat} {ys : List CarOut} (h : CosV w (some ⟨g, 0, none⟩) ys) (hk : ∀ q : Addr, q.block = g → w'.cell? q = w.cell? q) : CosV w' (some ⟨g, 0, none⟩) ys := by
  rcases h with h | ⟨b, off, hA, h⟩
  · exact .inl h
  · have hA2 := Option.some.inj hA
    have hb : g = b := congrArg Addr.block hA2
    exact .inr ⟨b, off, hA, fun i hi j v hj => (hk _ hb.symm).trans (h i hi j v hj)⟩

set_option maxRecDepth 100000 in
set_option maxHeartbeats 4000000 in
theorem rdOutTop_any (x : BldD) (A : Option Addr) (cap : Nat) (s : ByteArray) (w : World) (hxn : x.cars.length ≤ 140737488355328) (hc : CarsAt w w.heap.size A x.cars) (hs : s.size ≤ maxLen) :
    Calls Try.prog 18 #[x.agg A cap, .string s] w fun e w' => Below w.heap.size w w' ∧
      ((openOkOut x s ∧ readOkOut x s ∧ ∃ g, CosV w' (some ⟨g, 0, none⟩) (ouOf x s).cars ∧ e = .returned (.tuple #[ouAgg (ouOf x s) (some ⟨g, 0, none⟩) x.cars.length, .int .i64 0])) ∨ (∃ code, ReadOE x s code ∧ code ≠ 0 ∧ e = .returned (.tuple #[ouAgg zeroOu none 0, .int .i64 code]))) := by
  have hmf : ∀ (fn : Fn) (first cap : Array Value) (w : World), (Instr.makeFunc fn first cap).run Try.prog w = .ok (.func fn first cap) w := fun _ _ _ _ => rfl
  have HSI := Lib.hid (fun wx (h : Below w.heap.size w wx) => size_any x A cap wx hxn ((hc.below h).more h.size))
  have HRD := Lib.hid (fun bx bb wx (h : Below w.heap.size w wx) (hp : CellsAt wx bx 0 (ohV noOh none 0 0)) (hf : ∀ j, j < 8 → wx.frozen? ⟨bx, j, none⟩ = false) (hpN : w.heap.size + 2 ≤ bx) (h2 : w.heap.size + 2 ≤ wx.heap.size) (hbb : wx.cell? ⟨bb, 7, none⟩ = some (.slice A x.cars.length cap)) =>
    readOut_any (w.heap.size + 2) bx bb (sizeOut x) s x A cap wx hxn ((hc.below h).more h.size) hs (fun hv => if_pos hv) h2 hp hf hpN hbb)
  clear hc
  generalize sizeIn x = SI at *
  generalize sizeOut x = SO at *
  have hlen := ouOf_length x s
  have HOF : Hid (ouOf x s = Kind.ouR .rd (bodyL s) (noOu x.cars.length)) := rfl
  generalize ouOf x s = y at *
  rw [← HOF.out] at HRD
  have HLEN := Lib.hid hlen
  clear HOF hlen
  generalize openOkOut x s = OK1 at *
  generalize readOkOut x s = OK2 at *
  generalize hE : ReadOE x s = RE at *
  clear hE
  obtain ⟨f, d, r, p, e1, e2, e3, cs⟩ := x
  obtain ⟨⟨au, ad, su, sd, bad, full, st⟩, ys⟩ := y
  simp only [BldD.agg, ouAgg, zeroOu, OuBox, List.length_nil, noOh] at *
  go_enter Try.func18, Try.ntmps18
  go_wp2_with fail
  refine (HSI.out _ (by go_grown)).mono ?_
  rintro e w1 ⟨rfl, hb1⟩
  obtain ⟨W0, hW0⟩ : ∃ W0, W0 = ((w.alloc (.cells #[.int .i64 f, .int .i64 d, .int .i64 r, .int .i64 p, .float .f64 e1, .float .f64 e2, .float .f64 e3, .slice A cs.length cap] 25)).alloc (.cells #[.int .u32 0, .int .u32 0, .int .u32 0, .int .u32 0, .bool false, .bool false, .int .i64 0, .slice none 0 0] 46)).alloc (.cells #[.int .u32 0, .int .u32 0, .int .u32 0, .int .u32 0, .bool false, .bool false, .int .i64 0, .slice none 0 0] 46) := ⟨_, rfl⟩
  rw [← hW0] at hb1
  have hs0 : W0.heap.size = w.heap.size + 3 := by rw [hW0]; simp
  have hbw0 : Below w.heap.size w W0 := by rw [hW0]; exact (((Below.refl _ _).alloc (Nat.le_refl _) _).alloc (by simp) _).alloc (by simp; omega) _
  have hq0 : W0.heap[w.heap.size]? = some (.cells #[.int .i64 f, .int .i64 d, .int .i64 r, .int .i64 p, .float .f64 e1, .float .f64 e2, .float .f64 e3, .slice A cs.length cap] 25 (0, 0)) := by
    rw [hW0]
    exact (Below.heap_alloc _ _ _ (by simp; omega)).trans ((Below.heap_alloc _ _ _ (by simp)).trans (heap_alloc_new w _))
  have hq1 : W0.heap[w.heap.size + 1]? = some (.cells #[.int .u32 0, .int .u32 0, .int .u32 0, .int .u32 0, .bool false, .bool false, .int .i64 0, .slice none 0 0] 46 (0, 0)) := by
    rw [hW0]
    have h := heap_alloc_new (w.alloc (.cells #[.int .i64 f, .int .i64 d, .int .i64 r, .int .i64 p, .float .f64 e1, .float .f64 e2, .float .f64 e3, .slice A cs.length cap] 25)) (.cells #[.int .u32 0, .int .u32 0, .int .u32 0, .int .u32 0, .bool false, .bool false, .int .i64 0, .slice none 0 0] 46)
    have e : (w.alloc (.cells #[.int .i64 f, .int .i64 d, .int .i64 r, .int .i64 p, .float .f64 e1, .float .f64 e2, .float .f64 e3, .slice A cs.length cap] 25)).heap.size = w.heap.size + 1 := by simp
    rw [e] at h
    exact (Below.heap_alloc _ _ _ (by simp)).trans h
  have hq2 : W0.heap[w.heap.size + 2]? = some (.cells #[.int .u32 0, .int .u32 0, .int .u32 0, .int .u32 0, .bool false, .bool false, .int .i64 0, .slice none 0 0] 46 (0, 0)) := by
    rw [hW0]
    have h := heap_alloc_new ((w.alloc (.cells #[.int .i64 f, .int .i64 d, .int .i64 r, .int .i64 p, .float .f64 e1, .float .f64 e2, .float .f64 e3, .slice A cs.length cap] 25)).alloc (.cells #[.int .u32 0, .int .u32 0, .int .u32 0, .int .u32 0, .bool false, .bool false, .int .i64 0, .slice none 0 0] 46)) (.cells #[.int .u32 0, .int .u32 0, .int .u32 0, .int .u32 0, .bool false, .bool false, .int .i64 0, .slice none 0 0] 46)
    have e : ((w.alloc (.cells #[.int .i64 f, .int .i64 d, .int .i64 r, .int .i64 p, .float .f64 e1, .float .f64 e2, .float .f64 e3, .slice A cs.length cap] 25)).alloc (.cells #[.int .u32 0, .int .u32 0, .int .u32 0, .int .u32 0, .bool false, .bool false, .int .i64 0, .slice none 0 0] 46)).heap.size = w.heap.size + 2 := by simp
    rw [e] at h
    exact h
  have hbw1 : Below w.heap.size w w1 := hbw0.trans (hb1.mono (by omega))
  have hr0 : w1.heap[w.heap.size]? = some (.cells #[.int .i64 f, .int .i64 d, .int .i64 r, .int .i64 p, .float .f64 e1, .float .f64 e2, .float .f64 e3, .slice A cs.length cap] 25 (0, 0)) := (hb1.block _ (by omega)).trans hq0
  have hr1 : w1.heap[w.heap.size + 1]? = some (.cells #[.int .u32 0, .int .u32 0, .int .u32 0, .int .u32 0, .bool false, .bool false, .int .i64 0, .slice none 0 0] 46 (0, 0)) := (hb1.block _ (by omega)).trans hq1
  have hr2 : w1.heap[w.heap.size + 2]? = some (.cells #[.int .u32 0, .int .u32 0, .int .u32 0, .int .u32 0, .bool false, .bool false, .int .i64 0, .slice none 0 0] 46 (0, 0)) := (hb1.block _ (by omega)).trans hq2
  have hs1 : w.heap.size + 3 ≤ w1.heap.size := by have := hb1.size; omega
  have g0 : w1.cell? ⟨w.heap.size, 0, none⟩ = some (.int .i64 f) := cell_of_row _ _ _ _ _ (0, 0) hr0
  have g1 : w1.cell? ⟨w.heap.size, 1, none⟩ = some (.int .i64 d) := cell_of_row _ _ _ _ _ (0, 0) hr0
  have g2 : w1.cell? ⟨w.heap.size, 2, none⟩ = some (.int .i64 r) := cell_of_row _ _ _ _ _ (0, 0) hr0
  have g3 : w1.cell? ⟨w.heap.size, 3, none⟩ = some (.int .i64 p) := cell_of_row _ _ _ _ _ (0, 0) hr0
  have g4 : w1.cell? ⟨w.heap.size, 4, none⟩ = some (.float .f64 e1) := cell_of_row _ _ _ _ _ (0, 0) hr0
  have g5 : w1.cell? ⟨w.heap.size, 5, none⟩ = some (.float .f64 e2) := cell_of_row _ _ _ _ _ (0, 0) hr0
  have g6 : w1.cell? ⟨w.heap.size, 6, none⟩ = some (.float .f64 e3) := cell_of_row _ _ _ _ _ (0, 0) hr0
  have g7 : w1.cell? ⟨w.heap.size, 7, none⟩ = some (.slice A cs.length cap) := cell_of_row _ _ _ _ _ (0, 0) hr0
  have HBW1 := Lib.hid hbw1
  have HR1 := Lib.hid hr1
  have HR2 := Lib.hid hr2
  have G7 := Lib.hid g7
  clear hW0 hb1 hbw0 hq0 hq1 hq2 hbw1 hr0 hr1 hr2
  go_wp2_with fail
  refine (HRD.out (w.heap.size + 1 + 1) w.heap.size w1 HBW1.out (fun j v hj => ?_) (fun j _ => ?_) (by omega) (by omega) G7.out).mono ?_
  · rw [Nat.zero_add, cell_of_row _ _ _ _ _ (0, 0) HR2.out]
    simpa [ohV] using hj
  · have := HR2.out
    simp [World.frozen?, this]
  clear g0 g1 g2 g3 g4 g5 g6 g7
  rintro e w2 ⟨hb2, ⟨ok1, ok2, rfl, g, hg, hin1, hin2⟩ | ⟨code, hre, hne, rfl⟩⟩
  · have hs2 := hb2.size
    have hr1 : w2.heap[w.heap.size + 1]? = some (.cells #[.int .u32 0, .int .u32 0, .int .u32 0, .int .u32 0, .bool false, .bool false, .int .i64 0, .slice none 0 0] 46 (0, 0)) := (hb2.block _ (by omega)).trans HR1.out
    have hbw2 : Below w.heap.size w w2 := HBW1.out.trans (hb2.mono (by omega))
    have x0 := hin1 0 _ rfl
    have x1 := hin1 1 _ rfl
    have x2 := hin1 2 _ rfl
    have x3 := hin1 3 _ rfl
    have x4 := hin1 4 _ rfl
    have x5 := hin1 5 _ rfl
    have x6 := hin1 6 _ rfl
    have x7 := hin1 7 _ rfl
    simp only [Nat.zero_add] at x0 x1 x2 x3 x4 x5 x6 x7
    have y0 : w2.cell? ⟨w.heap.size + 1, 0, none⟩ = some (.int .u32 0) := cell_of_row _ _ _ _ _ (0, 0) hr1
    have z0 : w2.frozen? ⟨w.heap.size + 1, 0, none⟩ = false := by simp [World.frozen?, hr1]
    have y1 : w2.cell? ⟨w.heap.size + 1, 1, none⟩ = some (.int .u32 0) := cell_of_row _ _ _ _ _ (0, 0) hr1
    have z1 : w2.frozen? ⟨w.heap.size + 1, 1, none⟩ = false := by simp [World.frozen?, hr1]
    have y2 : w2.cell? ⟨w.heap.size + 1, 2, none⟩ = some (.int .u32 0) := cell_of_row _ _ _ _ _ (0, 0) hr1
    have z2 : w2.frozen? ⟨w.heap.size + 1, 2, none⟩ = false := by simp [World.frozen?, hr1]
    have y3 : w2.cell? ⟨w.heap.size + 1, 3, none⟩ = some (.int .u32 0) := cell_of_row _ _ _ _ _ (0, 0) hr1
    have z3 : w2.frozen? ⟨w.heap.size + 1, 3, none⟩ = false := by simp [World.frozen?, hr1]
    have y4 : w2.cell? ⟨w.heap.size + 1, 4, none⟩ = some (.bool false) := cell_of_row _ _ _ _ _ (0, 0) hr1
    have z4 : w2.frozen? ⟨w.heap.size + 1, 4, none⟩ = false := by simp [World.frozen?, hr1]
    have y5 : w2.cell? ⟨w.heap.size + 1, 5, none⟩ = some (.bool false) := cell_of_row _ _ _ _ _ (0, 0) hr1
    have z5 : w2.frozen? ⟨w.heap.size + 1, 5, none⟩ = false := by simp [World.frozen?, hr1]
    have y6 : w2.cell? ⟨w.heap.size + 1, 6, none⟩ = some (.int .i64 0) := cell_of_row _ _ _ _ _ (0, 0) hr1
    have z6 : w2.frozen? ⟨w.heap.size + 1, 6, none⟩ = false := by simp [World.frozen?, hr1]
    have y7 : w2.cell? ⟨w.heap.size + 1, 7, none⟩ = some (.slice none 0 0) := cell_of_row _ _ _ _ _ (0, 0) hr1
    have z7 : w2.frozen? ⟨w.heap.size + 1, 7, none⟩ = false := by simp [World.frozen?, hr1]
    have HB := Lib.hid hbw2
    have HCV := Lib.hid hin2
    have HO := Lib.hid (And.intro ok1 ok2)
    clear hb2 hr1 hbw2 hin1 hin2 ok1 ok2
    go_wp2_with fail
    refine bodyPost_ret (v := .tuple #[.agg #[.int .u32 au, .int .u32 ad, .int .u32 su, .int .u32 sd, .bool bad, .bool full, .int .i64 st, .slice (some ⟨g, 0, none⟩) ys.length cs.length], .int .i64 0]) (by simp [results, Try.results18, go_sem, y0, y1, y2, y3, y4, y5, y6, y7]) rfl ?_
    refine ⟨HB.out.trans (by go_grown), .inl ⟨HO.out.1, HO.out.2, g, ?_, rfl⟩⟩
    have hne : g ≠ w.heap.size + 1 := by omega
    exact HCV.out.far (fun q hq => by
      have hne' : q.block ≠ w.heap.size + 1 := by rw [hq]; exact hne
      rw [cell_far _ _ _ _ hne', cell_far _ _ _ _ hne', cell_far _ _ _ _ hne', cell_far _ _ _ _ hne', cell_far _ _ _ _ hne', cell_far _ _ _ _ hne', cell_far _ _ _ _ hne', cell_far _ _ _ _ hne'])
  · have hs2 := hb2.size
    have hr1 : w2.heap[w.heap.size + 1]? = some (.cells #[.int .u32 0, .int .u32 0, .int .u32 0, .int .u32 0, .bool false, .bool false, .int .i64 0, .slice none 0 0] 46 (0, 0)) := (hb2.block _ (by omega)).trans HR1.out
    have hbw2 : Below w.heap.size w w2 := HBW1.out.trans (hb2.mono (by omega))
    have hne' : (code != 0) = true := bne_iff_ne.2 hne
    have y0 : w2.cell? ⟨w.heap.size + 1, 0, none⟩ = some (.int .u32 0) := cell_of_row _ _ _ _ _ (0, 0) hr1
    have z0 : w2.frozen? ⟨w.heap.size + 1, 0, none⟩ = false := by simp [World.frozen?, hr1]
    have y1 : w2.cell? ⟨w.heap.size + 1, 1, none⟩ = some (.int .u32 0) := cell_of_row _ _ _ _ _ (0, 0) hr1
    have z1 : w2.frozen? ⟨w.heap.size + 1, 1, none⟩ = false := by simp [World.frozen?, hr1]
    have y2 : w2.cell? ⟨w.heap.size + 1, 2, none⟩ = some (.int .u32 0) := cell_of_row _ _ _ _ _ (0, 0) hr1
    have z2 : w2.frozen? ⟨w.heap.size + 1, 2, none⟩ = false := by simp [World.frozen?, hr1]
    have y3 : w2.cell? ⟨w.heap.size + 1, 3, none⟩ = some (.int .u32 0) := cell_of_row _ _ _ _ _ (0, 0) hr1
    have z3 : w2.frozen? ⟨w.heap.size + 1, 3, none⟩ = false := by simp [World.frozen?, hr1]
    have y4 : w2.cell? ⟨w.heap.size + 1, 4, none⟩ = some (.bool false) := cell_of_row _ _ _ _ _ (0, 0) hr1
    have z4 : w2.frozen? ⟨w.heap.size + 1, 4, none⟩ = false := by simp [World.frozen?, hr1]
    have y5 : w2.cell? ⟨w.heap.size + 1, 5, none⟩ = some (.bool false) := cell_of_row _ _ _ _ _ (0, 0) hr1
    have z5 : w2.frozen? ⟨w.heap.size + 1, 5, none⟩ = false := by simp [World.frozen?, hr1]
    have y6 : w2.cell? ⟨w.heap.size + 1, 6, none⟩ = some (.int .i64 0) := cell_of_row _ _ _ _ _ (0, 0) hr1
    have z6 : w2.frozen? ⟨w.heap.size + 1, 6, none⟩ = false := by simp [World.frozen?, hr1]
    have y7 : w2.cell? ⟨w.heap.size + 1, 7, none⟩ = some (.slice none 0 0) := cell_of_row _ _ _ _ _ (0, 0) hr1
    have z7 : w2.frozen? ⟨w.heap.size + 1, 7, none⟩ = false := by simp [World.frozen?, hr1]
    have HB := Lib.hid hbw2
    have HO := Lib.hid (And.intro hre hne)
    clear hb2 hr1 hbw2 hre hne
    go_wp2_with fail
    refine bodyPost_ret (v := .tuple #[.agg #[.int .u32 0, .int .u32 0, .int .u32 0, .int .u32 0, .bool false, .bool false, .int .i64 0, .slice none 0 0], .int .i64 code]) (by simp [results, Try.results18, go_sem, y0, y1, y2, y3, y4, y5, y6, y7]) rfl ?_
    exact ⟨HB.out.trans (by go_grown), .inr ⟨code, HO.out.1, HO.out.2, rfl⟩⟩
end Go.Proofs.Ythbfpdkgbkpmiaa
