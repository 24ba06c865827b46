/- The statements' building: a valid building with these thresholds, or with usual ones. No statement of the seat is proved here. -/
import Derived.Test.YtaiciopfinlpiaaLdStep2
import Derived.Test.YtaiciopfinlpiaaLitMore
namespace Go.Proofs.Ytaiciopfinlpiaa
open Go.RowKit

theorem set8 {cs : Array Value} (hs : cs.size = 8) (v0 v1 v2 v3 v4 v5 v6 v7 : Value) : (((((((cs.setIfInBounds 0 v0).setIfInBounds 1 v1).setIfInBounds 2 v2).setIfInBounds 3 v3).setIfInBounds 4 v4).setIfInBounds 5 v5).setIfInBounds 6 v6).setIfInBounds 7 v7 = #[v0, v1, v2, v3, v4, v5, v6, v7] := by
  obtain ⟨l⟩ := cs
  match l, hs with
  | [a, b, c, d, e, f, g, i], _ => simp
theorem Lit.put8 {B b : Nat} {W1 wx : World} {cs : Array Value} {t : TypeId} (h : Lit B W1 b (.cells cs t (0, 0)) wx) (hb : B ≤ b) (hs : cs.size = 8) (v0 v1 v2 v3 v4 v5 v6 v7 : Value) :
    Lit B W1 b (.cells #[v0, v1, v2, v3, v4, v5, v6, v7] t (0, 0)) ((((((((wx.setCell ⟨b, 0, none⟩ v0).setCell ⟨b, 1, none⟩ v1).setCell ⟨b, 2, none⟩ v2).setCell ⟨b, 3, none⟩ v3).setCell ⟨b, 4, none⟩ v4).setCell ⟨b, 5, none⟩ v5).setCell ⟨b, 6, none⟩ v6).setCell ⟨b, 7, none⟩ v7) := by
  have g := (((((((h.put hb 0 v0).put hb 1 v1).put hb 2 v2).put hb 3 v3).put hb 4 v4).put hb 5 v5).put hb 6 v6).put hb 7 v7
  rw [set8 hs] at g
  exact g
theorem CarsAt.put {w : World} {B : Nat} {A : Option Addr} {cs : List CarD} (h : CarsAt w B A cs) {k : Nat} (hA : ∀ a, A = some a → ¬ a.block = k) (i : Nat) (v : Value) : CarsAt (w.setCell ⟨k, i, none⟩ v) B A cs := by
  rcases h with h | ⟨b, off, rfl, hlt, hc⟩
  · exact .inl h
  · refine .inr ⟨b, off, rfl, hlt, fun i hi j hj => ?_⟩
    have hne : ¬ b = k := hA _ rfl
    rw [← hc i hi j hj]
    unfold World.cell?
    rw [Below.heap_setCell _ _ _ _ (by simpa using hne)]

/-- A building's row, its cells and marks. -/
theorem zeroRow {B b : Nat} {W1 wx : World} {T : TypeId} {v0 v1 v2 v3 v4 v5 v6 v7 : Value} (h : Lit B W1 b (.cells #[v0, v1, v2, v3, v4, v5, v6, v7] T (0, 0)) wx) :
    (wx.cell? ⟨b, 0, none⟩ = some v0 ∧ wx.cell? ⟨b, 1, none⟩ = some v1 ∧ wx.cell? ⟨b, 2, none⟩ = some v2 ∧ wx.cell? ⟨b, 3, none⟩ = some v3 ∧ wx.cell? ⟨b, 4, none⟩ = some v4 ∧ wx.cell? ⟨b, 5, none⟩ = some v5 ∧ wx.cell? ⟨b, 6, none⟩ = some v6 ∧ wx.cell? ⟨b, 7, none⟩ = some v7) ∧
    (wx.frozen? ⟨b, 0, none⟩ = false ∧ wx.frozen? ⟨b, 1, none⟩ = false ∧ wx.frozen? ⟨b, 2, none⟩ = false ∧ wx.frozen? ⟨b, 3, none⟩ = false ∧ wx.frozen? ⟨b, 4, none⟩ = false ∧ wx.frozen? ⟨b, 5, none⟩ = false ∧ wx.frozen? ⟨b, 6, none⟩ = false ∧ wx.frozen? ⟨b, 7, none⟩ = false) :=
  ⟨⟨h.cell 0, h.cell 1, h.cell 2, h.cell 3, h.cell 4, h.cell 5, h.cell 6, h.cell 7⟩, ⟨h.free 0, h.free 1, h.free 2, h.free 3, h.free 4, h.free 5, h.free 6, h.free 7⟩⟩

set_option maxHeartbeats 1000000 in
theorem bld_any (t0 t1 t2 : Nat) (w : World) :
    Calls Try.prog 9 #[.float .f64 t0, .float .f64 t1, .float .f64 t2] w fun e w' => ∃ A cap, e = .returned ((bldD t0 t1 t2).agg A cap) ∧ CarsAt w' w'.heap.size A (bldD t0 t1 t2).cars ∧ Below w.heap.size w w' := by
  have hD : bldD t0 t1 t2 = if validE (bldX t0 t1 t2) = 0 then bldX t0 t1 t2 else bldX 4593671619917905920 4604930618986332160 4607182418800017408 := rfl
  have HR := Lib.hid (fun A cap wx => refValid_any (bldX t0 t1 t2) A cap wx (by simp [bldX, sampleCars_length]))
  generalize validE (bldX t0 t1 t2) = V at *
  have HD := Lib.hid hD
  clear hD
  simp only [bldX, BldD.agg, sampleCars_length] at HR
  go_enter Try.func9, Try.ntmps9
  go_wp2_with fail
  refine (sample_any 5 2 _ (by omega) (by omega) (by omega)).mono ?_
  rintro e w1 ⟨A, cap, rfl, hcars, hb1, hA⟩
  have HA := Lib.hid (show ∀ a, A = some a → ¬ a.block = w.heap.size from fun a h => by have := hA a h; simp at this; omega)
  have HA1 := Lib.hid (show ∀ a, A = some a → ¬ a.block = w.heap.size ∧ w.heap.size + 1 ≤ a.block from fun a h => by have := hA a h; simp at this; omega)
  simp only [sampleD, BldD.agg, sampleCars_length]
  have hsz : w.heap.size + 1 ≤ w1.heap.size := by have := hb1.size; simpa using this
  have hL1 := Lib.hid ((Lit.one w (.cells #[.int .i64 0, .int .i64 0, .int .i64 0, .int .i64 0, .float .f64 0, .float .f64 0, .float .f64 0, .slice none 0 0] 25)).next hb1)
  have HCA := Lib.hid hcars
  clear hb1 hA hcars
  go_wp2_with fail
  refine (HR.out A cap _ ((HCA.out.below ((Below.refl _ _).alloc (Nat.le_refl _) _)).more (by simp))).mono ?_
  rintro e w2 ⟨rfl, hb2⟩
  have hL2 := hL1.out.alloc (.cells #[.int .i64 5, .int .i64 1, .int .i64 4000, .int .i64 30, .float .f64 t0, .float .f64 t1, .float .f64 t2, .slice A 2 cap] 25) |>.next hb2
  obtain ⟨⟨z0, z1, z2, z3, z4, z5, z6, z7⟩, q0, q1, q2, q3, q4, q5, q6, q7⟩ := zeroRow hL2
  have hb2' : Below (w1.heap.size + 1) (w1.alloc (.cells #[.int .i64 5, .int .i64 1, .int .i64 4000, .int .i64 30, .float .f64 t0, .float .f64 t1, .float .f64 t2, .slice A 2 cap] 25)) w2 := hb2.mono (by simp)
  have hrow : w2.heap[w1.heap.size]? = some (.cells #[.int .i64 5, .int .i64 1, .int .i64 4000, .int .i64 30, .float .f64 t0, .float .f64 t1, .float .f64 t2, .slice A 2 cap] 25 (0, 0)) := (hb2'.block _ (by omega)).trans (heap_alloc_new _ _)
  obtain ⟨c0, c1, c2, c3, c4, c5, c6, c7⟩ := boxRow hrow
  have p4 : w2.frozen? ⟨w1.heap.size, 4, none⟩ = false := frozen_of_row _ _ _ _ _ hrow
  have p5 : w2.frozen? ⟨w1.heap.size, 5, none⟩ = false := frozen_of_row _ _ _ _ _ hrow
  have p6 : w2.frozen? ⟨w1.heap.size, 6, none⟩ = false := frozen_of_row _ _ _ _ _ hrow
  have hlt := hL2.lt
  have hne : ¬ w.heap.size = w1.heap.size := by omega
  have hne' : ¬ w1.heap.size = w.heap.size := by omega
  have hlt1 : w1.heap.size < w2.heap.size := by have := hb2'.size; simp at this; omega
  have HL2 := Lib.hid hL2
  have HB := Lib.hid (below_of_new hb2')
  clear hL2 hrow hb2 hb2'
  by_cases hv : V = 0
  · subst hv
    have hE := Lib.hid (fun v0 v1 v2 v3 v4 v5 v6 v7 => HL2.out.put8 (Nat.le_refl _) rfl v0 v1 v2 v3 v4 v5 v6 v7)
    go_wp2_with fail
    refine bodyPost_ret (results_cell_row Try.results9 _ _ _ _ _ (0, 0) _ rfl ((hE.out _ _ _ _ _ _ _ _).row) Try.underlying25 rfl (by kernel_rfl)) rfl (⟨A, cap, ?_, ?_, (hE.out _ _ _ _ _ _ _ _).below⟩)
    · rw [HD.out]; exact congrArg Ending.returned (by rw [if_pos trivial]; rfl)
    · rw [HD.out, if_pos trivial]
      refine CarsAt.more (B := w1.heap.size) ?_ (by simp; omega)
      iterate 8 (refine CarsAt.put ?_ HA.out _ _)
      exact HCA.out.below HB.out
  · have hE := Lib.hid (fun a4 a5 a6 v0 v1 v2 v3 v4 v5 v6 v7 => (((HL2.out.putOther (by omega) hne 4 a4).putOther (by omega) hne 5 a5).putOther (by omega) hne 6 a6).put8 (Nat.le_refl _) rfl v0 v1 v2 v3 v4 v5 v6 v7)
    go_wp2_with fail
    refine bodyPost_ret (results_cell_row Try.results9 _ _ _ _ _ (0, 0) _ rfl ((hE.out _ _ _ _ _ _ _ _ _ _ _).row) Try.underlying25 rfl (by kernel_rfl)) rfl (⟨A, cap, ?_, ?_, (hE.out _ _ _ _ _ _ _ _ _ _ _).below⟩)
    · rw [HD.out]; exact congrArg Ending.returned (by rw [if_neg hv]; rfl)
    · rw [HD.out, if_neg hv]
      refine CarsAt.more (B := w1.heap.size) ?_ (by simp; omega)
      iterate 8 (refine CarsAt.put ?_ HA.out _ _)
      exact (HCA.out.below HB.out).below ((((Below.refl w1.heap.size w2).setCell (p := ⟨w1.heap.size, 4, none⟩) (Nat.le_refl _) _).setCell (p := ⟨w1.heap.size, 5, none⟩) (Nat.le_refl _) _).setCell (p := ⟨w1.heap.size, 6, none⟩) (Nat.le_refl _) _)
end Go.Proofs.Ytaiciopfinlpiaa
