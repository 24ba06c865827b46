/- What holds of the building while BuildingFaults changes it: its box, its cars' row, the box of the bytes. No statement of the seat is proved here. -/
import Derived.Test.YtlfihfkiihdkfaaZeros
import Derived.Test.YtlfihfkiihdkfaaInf
import Derived.Test.YtlfihfkiihdkfaaBag
namespace Go.Proofs.Ytlfihfkiihdkfaa
open Go.RowKit

theorem own_kept {w w' : World} {base : Nat} {e : TypeId} {size n : Nat} {v : Value} {xs : List Value} (h : w.ownsRow base e size v n xs) {B : Nat} (hb : Below B w w') (hB : ∀ k, v.ownBlock = some k → k < B) : w'.ownsRow base e size v n xs := by
  refine ⟨h.1, ?_⟩
  rcases h.2 with hn | ⟨g, cap, cur, rfl, hbs, hgg, rest⟩
  · exact .inl hn
  · exact .inr ⟨g, cap, cur, rfl, hbs, by rw [hb.block g (hB g rfl)]; exact hgg, rest⟩

theorem flatCars_set (cs : List CarD) (i j : Nat) (z : Int) (c' : CarD) (h : i < cs.length) (hj : j < 9) (hv : c'.vals = cs[i].vals.set j z) :
    flatCars (cs.set i c') = (flatCars cs).set (i * 9 + j) (.int .i64 z) := by
  apply List.ext_getElem?
  intro q
  have hl : (cs.set i c').length = cs.length := List.length_set
  have h9 : ∀ c : CarD, c.vals.length = 9 := fun _ => rfl
  rcases Nat.lt_or_ge q (cs.length * 9) with hq | hq
  · obtain ⟨a, b, rfl, hb, ha⟩ : ∃ a b, q = a * 9 + b ∧ b < 9 ∧ a < cs.length := ⟨q / 9, q % 9, by omega, by omega, by omega⟩
    rw [flatCars_at (cs.set i c') a (by omega) b hb, List.getElem?_set, flatCars_length, flatCars_at cs a ha b hb]
    have g1 : cs.getD a default = cs[a] := by simp [List.getD, ha]
    rw [g1]
    by_cases hai : i = a
    · subst hai
      have g2 : (cs.set i c').getD i default = c' := by simp [List.getD, ha]
      rw [g2, hv]
      by_cases hbj : j = b
      · subst hbj
        rw [if_pos rfl, if_pos (by omega)]
        simp [List.getD, h9, hb]
      · rw [if_neg (by omega)]
        simp [List.getD, List.getElem?_set_ne hbj]
    · have g2 : (cs.set i c').getD a default = cs[a] := by simp [List.getD, ha, hai]
      rw [g2, if_neg (by omega)]
  · rw [List.getElem?_eq_none (by rw [flatCars_length, hl]; omega), List.getElem?_eq_none (by rw [List.length_set, flatCars_length]; omega)]

def boxCells (b : BldD) (g n cap : Nat) : Array Value := #[.int .i64 b.floors, .int .i64 b.debounce, .int .i64 b.room, .int .i64 b.park, .float .f64 b.empty, .float .f64 b.full, .float .f64 b.over, .slice (some ⟨g, 0, none⟩) n cap]

structure FS (w0 : World) (gb : Nat) (y0 y1 : Int) (W : World) (b : BldD) (g n cap : Nat) : Prop where
  xbox : W.heap[w0.heap.size]? = some (.cells #[.int .u8 y0, .int .u8 y1] 30 (0, 0))
  bbox : W.heap[gb]? = some (.cells (boxCells b g n cap) 25 (0, 0))
  own : W.ownsRow (w0.heap.size + 1) 34 9 (.slice (some ⟨g, 0, none⟩) n cap) n (flatCars b.cars)
  len : b.cars.length = n
  ne : g ≠ gb
  gx : w0.heap.size < gb
  below : Below w0.heap.size w0 W
  n1 : 1 ≤ n

section
variable {w0 W : World} {gb : Nat} {y0 y1 : Int} {b : BldD} {g n cap : Nat}
theorem FS.gbase (h : FS w0 gb y0 y1 W b g n cap) : w0.heap.size + 1 ≤ g ∧ g < W.heap.size := by
  obtain ⟨g', c', hv, h1, h2⟩ := h.own.form (by have := h.n1; omega)
  injection hv with e1 _ _
  injection e1 with e1
  injection e1 with e1
  subst e1
  exact ⟨h1, h2⟩
theorem FS.ncap (h : FS w0 gb y0 y1 W b g n cap) : 1 ≤ cap := by
  rcases h.own.2 with ⟨hv, _⟩ | ⟨g1, cap1, cur, hv, hbg, hg, hnc, hcm, hcs, htake⟩
  · cases hv
  · injection hv with _ _ e2
    have := h.n1
    omega
theorem FS.gblt (h : FS w0 gb y0 y1 W b g n cap) : gb < W.heap.size := by
  rcases Nat.lt_or_ge gb W.heap.size with h1 | h1
  · exact h1
  · have := h.bbox; rw [Array.getElem?_eq_none h1] at this; cases this
theorem FS.xlt (h : FS w0 gb y0 y1 W b g n cap) : w0.heap.size < W.heap.size := by have := h.gblt; have := h.gx; omega
theorem FS.drew (h : FS w0 gb y0 y1 W b g n cap) : FS w0 gb y0 y1 W.drew b g n cap := ⟨h.xbox, h.bbox, h.own, h.len, h.ne, h.gx, h.below.drew, h.n1⟩
theorem FS.grow {W' : World} (h : FS w0 gb y0 y1 W b g n cap) (hb : Below W.heap.size W W') : FS w0 gb y0 y1 W' b g n cap :=
  ⟨(hb.block _ h.xlt).trans h.xbox, (hb.block _ h.gblt).trans h.bbox, own_kept h.own hb (fun k hk => by simp [Value.ownBlock] at hk; have := h.gbase; omega), h.len, h.ne, h.gx, h.below.trans (hb.mono (by have := h.xlt; omega)), h.n1⟩
/-- The cells that the code reads. -/
theorem FS.cells (h : FS w0 gb y0 y1 W b g n cap) : W.cell? ⟨gb, 0, none⟩ = some (.int .i64 b.floors) ∧ W.cell? ⟨gb, 1, none⟩ = some (.int .i64 b.debounce) ∧ W.cell? ⟨gb, 2, none⟩ = some (.int .i64 b.room) ∧ W.cell? ⟨gb, 3, none⟩ = some (.int .i64 b.park) ∧ W.cell? ⟨gb, 4, none⟩ = some (.float .f64 b.empty) ∧ W.cell? ⟨gb, 5, none⟩ = some (.float .f64 b.full) ∧ W.cell? ⟨gb, 6, none⟩ = some (.float .f64 b.over) ∧ W.cell? ⟨gb, 7, none⟩ = some (.slice (some ⟨g, 0, none⟩) n cap) :=
  ⟨cell_of_row _ _ _ _ _ (0, 0) h.bbox, cell_of_row _ _ _ _ _ (0, 0) h.bbox, cell_of_row _ _ _ _ _ (0, 0) h.bbox, cell_of_row _ _ _ _ _ (0, 0) h.bbox, cell_of_row _ _ _ _ _ (0, 0) h.bbox, cell_of_row _ _ _ _ _ (0, 0) h.bbox, cell_of_row _ _ _ _ _ (0, 0) h.bbox, cell_of_row _ _ _ _ _ (0, 0) h.bbox⟩
theorem FS.frz (h : FS w0 gb y0 y1 W b g n cap) (j : Nat) : W.frozen? ⟨gb, j, none⟩ = false := frozen_of_row _ _ _ _ _ h.bbox
theorem FS.x0 (h : FS w0 gb y0 y1 W b g n cap) : W.cell? ⟨w0.heap.size, 0, none⟩ = some (.int .u8 y0) := cell_of_row _ _ _ _ _ (0, 0) h.xbox
theorem FS.x1 (h : FS w0 gb y0 y1 W b g n cap) : W.cell? ⟨w0.heap.size, 1, none⟩ = some (.int .u8 y1) := cell_of_row _ _ _ _ _ (0, 0) h.xbox
theorem FS.xk (h : FS w0 gb y0 y1 W b g n cap) {k k' : Nat} {y z : Int} (hk : (k = 0 ∧ k' = 1 ∧ y = y0 ∧ z = y1) ∨ (k = 1 ∧ k' = 0 ∧ y = y1 ∧ z = y0)) :
    W.cell? ⟨w0.heap.size, k, none⟩ = some (.int .u8 y) ∧ W.cell? ⟨w0.heap.size, k', none⟩ = some (.int .u8 z) := by
  rcases hk with ⟨rfl, rfl, rfl, rfl⟩ | ⟨rfl, rfl, rfl, rfl⟩
  · exact ⟨h.x0, h.x1⟩
  · exact ⟨h.x1, h.x0⟩
/-- A store into the box. -/
theorem FS.store (h : FS w0 gb y0 y1 W b g n cap) (j : Nat) (v : Value) (b' : BldD) (g' n' cap' : Nat) (hb : (boxCells b g n cap).setIfInBounds j v = boxCells b' g' n' cap')
    (hown : W.ownsRow (w0.heap.size + 1) 34 9 (.slice (some ⟨g', 0, none⟩) n' cap') n' (flatCars b'.cars)) (hl : b'.cars.length = n') (hne : g' ≠ gb) (h1 : 1 ≤ n') :
    FS w0 gb y0 y1 (W.setCell ⟨gb, j, none⟩ v) b' g' n' cap' := by
  refine ⟨?_, ?_, ownsRow_setCell_other hown (by simp [Value.ownBlock]; exact hne) _, hl, hne, h.gx, h.below.setCell (by show _ ≤ gb; have := h.gx; omega) _, h1⟩
  · rw [Below.heap_setCell _ _ _ _ (by show w0.heap.size ≠ gb; have := h.gx; omega)]; exact h.xbox
  · have := h.bbox
    simp only [World.setCell, Array.getElem?_modify, this, if_true, Option.map_some]
    rw [← hb]
    rfl
/-- A store into a car. -/
theorem FS.car (h : FS w0 gb y0 y1 W b g n cap) (i j : Nat) (z : Int) (c' : CarD) (hi : i < n) (hj : j < 9) (hv : ∀ hi' : i < b.cars.length, c'.vals = b.cars[i].vals.set j z) :
    FS w0 gb y0 y1 (W.setCell ⟨g, i * 9 + j, none⟩ (.int .i64 z)) { b with cars := b.cars.set i c' } g n cap := by
  have hil : i < b.cars.length := by rw [h.len]; exact hi
  have hg := h.gbase
  have hst := (h.own.stored (i * 9 + j) (.int .i64 z)).1
  refine ⟨?_, ?_, ?_, by simp only [List.length_set]; exact h.len, h.ne, h.gx, h.below.setCell (by show _ ≤ g; omega) _, h.n1⟩
  · rw [Below.heap_setCell _ _ _ _ (by show w0.heap.size ≠ g; omega)]; exact h.xbox
  · rw [Below.heap_setCell _ _ _ _ (by show gb ≠ g; have := h.ne; omega)]; exact h.bbox
  · rw [flatCars_set b.cars i j z c' hil hj (hv hil)]
    exact hst
theorem FS.carCell (h : FS w0 gb y0 y1 W b g n cap) (i j : Nat) (hi : i < n) (hj : j < 9) : ∃ z, W.cell? ⟨g, i * 9 + j, none⟩ = some (.int .i64 z) ∧ W.frozen? ⟨g, i * 9 + j, none⟩ = false := by
  have h1 := flatCars_at b.cars i (by rw [h.len]; exact hi) j hj
  rw [← h.own.cellAt _ (by omega)] at h1
  exact ⟨_, h1, h.own.frozenAt _⟩
/-- The first car alone. -/
theorem FS.first (h : FS w0 gb y0 y1 W b g n cap) : W.ownsRow (w0.heap.size + 1) 34 9 (.slice (some ⟨g, 0, none⟩) 1 cap) 1 (flatCars (b.cars.take 1)) ∧ (b.cars.take 1).length = 1 := by
  have hl : (b.cars.take 1).length = 1 := by rw [List.length_take, h.len]; have := h.n1; omega
  have ht : flatCars (b.cars.take 1) = (flatCars b.cars).take 9 := by
    have e : b.cars = b.cars.take 1 ++ b.cars.drop 1 := (List.take_append_drop 1 _).symm
    conv => rhs; rw [e]
    rw [flatCars_app, List.take_left' (by rw [flatCars_length, hl])]
  refine ⟨⟨by rw [flatCars_length, hl], ?_⟩, hl⟩
  rcases h.own.2 with ⟨hv, _⟩ | ⟨g1, cap1, cur, hv, hbg, hg, hnc, hcm, hcs, htake⟩
  · cases hv
  · injection hv with e1 _ e2
    injection e1 with e1
    injection e1 with e1
    subst e1 e2
    refine .inr ⟨g, cap, cur, rfl, hbg, hg, by have := h.n1; omega, hcm, hcs, ?_⟩
    rw [ht, ← htake, List.take_take, Nat.min_eq_left (by have := h.n1; omega)]
theorem FS.carsAt (h : FS w0 gb y0 y1 W b g n cap) : CarsAt W W.heap.size (some ⟨g, 0, none⟩) b.cars := by
  have := h.own
  rw [← h.len] at this
  exact CarsAt.of_own this
end

theorem float64bits_run (n : Nat) (w : World) : (callFunc 32 #[.float .f64 n]).run Try.prog w = .ok (.value (.int .u64 n)) w := by
  rw [run_callFunc_extern (e := Extern.MathFloatBits.float64bits) Try.func32 (by kernel_rfl) (by kernel_rfl) (by kernel_rfl) (by kernel_rfl)]
  rfl
theorem nan_any (w : World) : Calls Try.prog 12 #[] w fun e w' => e = .returned (.float .f64 9221120237041090561) ∧ w = w' := by
  have hr := frombits_run 9221120237041090561
  go_enter Try.func12, Try.ntmps12
  go_wp2
  go_ret
  exact ⟨rfl, rfl⟩
theorem infNeg_any (w : World) : Calls Try.prog 13 #[.int .i64 (-1)] w fun e w' => e = .returned (.float .f64 18442240474082181120) ∧ w = w' := by
  have hr := frombits_run 18442240474082181120
  go_enter Try.func13, Try.ntmps13
  go_wp2
  go_ret
  exact ⟨rfl, rfl⟩
theorem zero_bits : bits .or .u64 (bits .andNot .u64 0 9223372036854775808) (bits .and .u64 13830554455654793216 9223372036854775808) = 9223372036854775808 := by decide +kernel
theorem copysign_bits (w : World) : (callFunc 31 #[.int .u64 (bits .or .u64 (bits .andNot .u64 0 9223372036854775808) (bits .and .u64 13830554455654793216 9223372036854775808))]).run Try.prog w = .ok (.value (.float .f64 9223372036854775808)) w := by
  rw [zero_bits]; exact frombits_run _ w
theorem copysign_any (w : World) : Calls Try.prog 14 #[.float .f64 0, .float .f64 13830554455654793216] w fun e w' => e = .returned (.float .f64 9223372036854775808) ∧ w = w' := by
  have hr := copysign_bits
  have h1 := float64bits_run 0
  have h2 := float64bits_run 13830554455654793216
  go_enter Try.func14, Try.ntmps14
  go_wp2
  go_ret
  exact ⟨rfl, rfl⟩
end Go.Proofs.Ytlfihfkiihdkfaa
