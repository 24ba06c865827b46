/- Rows of ints: made, set; a box of a building. No statement of the seat is proved here. -/

import Derived.Test.YtgfejleemacabaaLdRow

import Derived.Test.YtgfejleemacabaaLit

namespace Go.Proofs.Ytgfejleemacabaa

open Go.RowKit

theorem nums_set (l : List Int) (k : Nat) (z : Int) : (nums l).toArray.setIfInBounds k (.int .i64 z) = (nums (l.set k z)).toArray := by
  simp [nums, List.map_set]

theorem row_set {wx : World} {b : Nat} {cs : Array Value} {t : TypeId} (h : wx.heap[b]? = some (.cells cs t (0, 0))) (i : Nat) (v : Value) : (wx.setCell ⟨b, i, none⟩ v).heap[b]? = some (.cells (cs.setIfInBounds i v) t (0, 0)) := by
  simp [World.setCell, Array.getElem?_modify, h]

/-- make([]T, n) of a type of one cell. -/
theorem make_nums (n : Nat) (hn : n ≤ 1000000) : ∀ w : World, (Instr.makeSlice 29 (.int .i64 n) (.int .i64 n)).run Try.prog w = .ok (.slice (some ⟨w.heap.size, 0, none⟩) n n) (w.alloc (.cells (nums (List.replicate n 0)).toArray 3)) := by
  intro w
  have := run_make (P := Try.prog) w 29 3 Try.t3 (.int .i64 0) Try.underlying29 (by kernel_rfl) (by kernel_rfl) .i64 .i64 n n (by omega) (Int.le_refl _) (by show ((8 : Nat) : Int) * (n : Int) ≤ _; omega) (by omega)
  rw [this, Int.toNat_natCast]
  have e : madeCells (Value.int .i64 0).cells (n * (Try.t3).size) = (nums (List.replicate n 0)).toArray := by
    apply Array.ext
    · rw [size_madeCells, List.size_toArray, nums_len, List.length_replicate]; show n * 1 = n; omega
    · intro i h1 h2
      have hi : i % 1 = 0 := Nat.mod_one i
      simp [madeCells, Value.cells, hi, nums]
  rw [e]

theorem own_of_blocks {w w' : World} {base n size : Nat} {e : TypeId} {v : Value} {xs : List Value} (h : w.ownsRow base e size v n xs) (hb : ∀ j, base ≤ j → j < w.heap.size → w'.heap[j]? = w.heap[j]?) : w'.ownsRow base e size v n xs := by
  obtain ⟨hl, h | ⟨g, cap, cur, hv, hbg, hg, hc⟩⟩ := h
  · exact ⟨hl, .inl h⟩
  · have hlt : g < w.heap.size := by
      rcases Nat.lt_or_ge g w.heap.size with h | h
      · exact h
      · rw [Array.getElem?_eq_none h] at hg; cases hg
    exact ⟨hl, .inr ⟨g, cap, cur, hv, hbg, (hb g hbg hlt).trans hg, hc⟩⟩

theorem own_base {w : World} {base base' n size : Nat} {e : TypeId} {v : Value} {xs : List Value} (h : w.ownsRow base e size v n xs) (hb : base' ≤ base) : w.ownsRow base' e size v n xs := by
  obtain ⟨hl, h | ⟨g, cap, cur, hv, hbg, hc⟩⟩ := h
  · exact ⟨hl, .inl h⟩
  · exact ⟨hl, .inr ⟨g, cap, cur, hv, by omega, hc⟩⟩

/-- The cells of a building that lies whole in block g. -/
theorem boxRow {wx : World} {g : Nat} {f d r p : Int} {e1 e2 e3 : Nat} {A : Option Addr} {n cap : Nat} (h : wx.heap[g]? = some (.cells #[.int .i64 f, .int .i64 d, .int .i64 r, .int .i64 p, .float .f64 e1, .float .f64 e2, .float .f64 e3, .slice A n cap] 25 (0, 0))) :
    wx.cell? ⟨g, 0, none⟩ = some (.int .i64 f) ∧ wx.cell? ⟨g, 1, none⟩ = some (.int .i64 d) ∧ wx.cell? ⟨g, 2, none⟩ = some (.int .i64 r) ∧ wx.cell? ⟨g, 3, none⟩ = some (.int .i64 p) ∧ wx.cell? ⟨g, 4, none⟩ = some (.float .f64 e1) ∧ wx.cell? ⟨g, 5, none⟩ = some (.float .f64 e2) ∧ wx.cell? ⟨g, 6, none⟩ = some (.float .f64 e3) ∧ wx.cell? ⟨g, 7, none⟩ = some (.slice A n cap) :=
  ⟨cell_of_row wx _ _ _ _ (0, 0) h, cell_of_row wx _ _ _ _ (0, 0) h, cell_of_row wx _ _ _ _ (0, 0) h, cell_of_row wx _ _ _ _ (0, 0) h, cell_of_row wx _ _ _ _ (0, 0) h, cell_of_row wx _ _ _ _ (0, 0) h, cell_of_row wx _ _ _ _ (0, 0) h, cell_of_row wx _ _ _ _ (0, 0) h⟩

/-- A building lies whole in block g, its cars somewhere. -/
structure BX (w : World) (g : Nat) (f d r p : Int) (e1 e2 e3 : Nat) (A : Option Addr) (cs : List CarD) (cap : Nat) : Prop where
  row : w.heap[g]? = some (.cells #[.int .i64 f, .int .i64 d, .int .i64 r, .int .i64 p, .float .f64 e1, .float .f64 e2, .float .f64 e3, .slice A cs.length cap] 25 (0, 0))
  own : CarsAt w g A cs
section
variable {w w' : World} {g : Nat} {f d r p : Int} {e1 e2 e3 : Nat} {A : Option Addr} {cs : List CarD} {cap : Nat}
theorem BX.lt (h : BX w g f d r p e1 e2 e3 A cs cap) : g < w.heap.size := by
  rcases Nat.lt_or_ge g w.heap.size with h1 | h1
  · exact h1
  · have := h.row; rw [Array.getElem?_eq_none h1] at this; cases this
theorem BX.below (h : BX w g f d r p e1 e2 e3 A cs cap) (hb : Below w.heap.size w w') : BX w' g f d r p e1 e2 e3 A cs cap :=
  ⟨(hb.block _ h.lt).trans h.row, h.own.below (hb.mono (Nat.le_of_lt h.lt))⟩
theorem BX.cars (h : BX w g f d r p e1 e2 e3 A cs cap) : CarsAt w w.heap.size A cs := h.own.more (Nat.le_of_lt h.lt)
theorem BX.put (h : BX w g f d r p e1 e2 e3 A cs cap) {k : Nat} (hk : g < k) (i : Nat) (v : Value) : BX (w.setCell ⟨k, i, none⟩ v) g f d r p e1 e2 e3 A cs cap :=
  ⟨(Below.heap_setCell _ _ _ _ (by show g ≠ k; omega)).trans h.row, h.own.below ((Below.refl _ _).setCell (by show g ≤ k; omega) _)⟩
theorem BX.new (h : CarsAt w w.heap.size A cs) : BX (w.alloc (.cells #[.int .i64 f, .int .i64 d, .int .i64 r, .int .i64 p, .float .f64 e1, .float .f64 e2, .float .f64 e3, .slice A cs.length cap] 25)) w.heap.size f d r p e1 e2 e3 A cs cap :=
  ⟨heap_alloc_new _ _, h.below ((Below.refl _ _).alloc (Nat.le_refl _) _)⟩
theorem BX.cells (h : BX w g f d r p e1 e2 e3 A cs cap) :
    w.cell? ⟨g, 0, none⟩ = some (.int .i64 f) ∧ w.cell? ⟨g, 1, none⟩ = some (.int .i64 d) ∧ w.cell? ⟨g, 2, none⟩ = some (.int .i64 r) ∧ w.cell? ⟨g, 3, none⟩ = some (.int .i64 p) ∧ w.cell? ⟨g, 4, none⟩ = some (.float .f64 e1) ∧ w.cell? ⟨g, 5, none⟩ = some (.float .f64 e2) ∧ w.cell? ⟨g, 6, none⟩ = some (.float .f64 e3) ∧ w.cell? ⟨g, 7, none⟩ = some (.slice A cs.length cap) := boxRow h.row
end
end Go.Proofs.Ytgfejleemacabaa
