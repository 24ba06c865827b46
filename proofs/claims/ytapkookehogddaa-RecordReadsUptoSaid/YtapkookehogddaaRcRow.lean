/- Lists of records in memory. No statement of the seat is proved here. -/
import Derived.Test.YtapkookehogddaaRcMath
import Derived.Test.YtapkookehogddaaBag
import Derived.Test.YtapkookehogddaaLitMore
import Derived.Deep.AppendLies
import Derived.Laws.OwnMore
namespace Go.Proofs.Ytapkookehogddaa
open Go.RowKit

def flatR (l : List Rc) : List Value := l.flatMap Rc.cells
theorem flatR_nil : flatR [] = [] := rfl
theorem flatR_cons (c : Rc) (l : List Rc) : flatR (c :: l) = c.cells ++ flatR l := rfl
theorem flatR_append (l m : List Rc) : flatR (l ++ m) = flatR l ++ flatR m := by unfold flatR; rw [List.flatMap_append]
theorem flatR_snoc (l : List Rc) (c : Rc) : flatR (l ++ [c]) = flatR l ++ c.cells := by rw [flatR_append, flatR_cons, flatR_nil, List.append_nil]
theorem flatR_length (l : List Rc) : (flatR l).length = l.length * 5 := by
  induction l with
  | nil => rfl
  | cons c l ih => rw [flatR_cons, List.length_append, ih, List.length_cons]; show 5 + _ = _; omega
theorem flatR_get : ∀ (l : List Rc) (i : Nat) (h : i < l.length) (j : Nat), j < 5 → (flatR l)[i * 5 + j]? = (l[i]).cells[j]?
  | c :: l, 0, _, j, hj => by
    rw [flatR_cons, Nat.zero_mul, Nat.zero_add, List.getElem?_append_left (by show j < 5; exact hj)]; rfl
  | c :: l, i + 1, h, j, hj => by
    rw [flatR_cons, List.getElem?_append_right (by show 5 ≤ _; omega), show (i + 1) * 5 + j - c.cells.length = i * 5 + j from by show (i + 1) * 5 + j - 5 = _; omega]
    exact flatR_get l i (by simpa using h) j hj
theorem flatR_one (l : List Rc) : ∀ u ∈ flatR l, u.oneCell' = true := by
  intro u hu
  obtain ⟨c, -, h⟩ := List.mem_flatMap.1 hu
  simp only [Rc.cells, List.mem_cons, List.not_mem_nil, or_false] at h
  rcases h with rfl | rfl | rfl | rfl | rfl <;> rfl

/-- A list of records at an address, and as a slice. -/
def RAt (w : World) (A : Option Addr) (l : List Rc) : Prop := l = [] ∨ ∃ b off, A = some ⟨b, off, none⟩ ∧ w.rangeAt b off (flatR l)
def RV (w : World) (v : Value) (l : List Rc) : Prop := ∃ A cap, v = .slice A l.length cap ∧ RAt w A l
theorem RAt.below {w w' : World} {A : Option Addr} {l : List Rc} (h : RAt w A l) (hb : Below w.heap.size w w') : RAt w' A l := by
  rcases h with h | ⟨b, off, hA, hr⟩
  · exact .inl h
  · exact .inr ⟨b, off, hA, fun j v hv => (hb.cell (World.block_lt_of_cell? w _ (hr j v hv))).trans (hr j v hv)⟩
theorem RV.below {w w' : World} {v : Value} {l : List Rc} (h : RV w v l) (hb : Below w.heap.size w w') : RV w' v l := by
  obtain ⟨A, cap, hv, hA⟩ := h
  exact ⟨A, cap, hv, hA.below hb⟩
theorem RAt.at_ {w : World} {A : Option Addr} {l : List Rc} (h : RAt w A l) {k : Nat} (hk : k < l.length) :
    ∃ b off, A = some ⟨b, off, none⟩ ∧ b < w.heap.size ∧ w.cell? ⟨b, off + k * 5, none⟩ = some (.int .i64 (l[k]).kind) ∧ w.cell? ⟨b, off + k * 5 + 1, none⟩ = some (.int .i64 (l[k]).floor) ∧ w.cell? ⟨b, off + k * 5 + 2, none⟩ = some (.int .i64 (l[k]).dir) ∧
      w.cell? ⟨b, off + k * 5 + 3, none⟩ = some (.int .i64 (l[k]).car) ∧ w.cell? ⟨b, off + k * 5 + 4, none⟩ = some (.int .i64 (l[k]).value) := by
  rcases h with h | ⟨b, off, hA, hr⟩
  · rw [h] at hk; simp at hk
  · have hc := fun j v (hj : j < 5) (e : (l[k]).cells[j]? = some v) => hr (k * 5 + j) v ((flatR_get l k hk j hj).trans e)
    have h0 := hc 0 _ (by omega) rfl
    refine ⟨b, off, hA, World.block_lt_of_cell? w _ h0, h0, hc 1 _ (by omega) rfl, hc 2 _ (by omega) rfl, hc 3 _ (by omega) rfl, hc 4 _ (by omega) rfl⟩
theorem RV.of_own {w : World} {base n : Nat} {v : Value} {l : List Rc} (h : w.ownsRow base 23 5 v n (flatR l)) : n = l.length ∧ RV w v l := by
  obtain ⟨hl, h | ⟨g, cap, cur, hv, _, hg, _, _, _, ht⟩⟩ := h
  · rw [flatR_length] at hl
    obtain ⟨rfl, rfl⟩ := h
    have : l = [] := List.eq_nil_of_length_eq_zero (by omega)
    subst this
    exact ⟨rfl, none, 0, rfl, .inl rfl⟩
  · rw [flatR_length] at hl
    have hn : n = l.length := by omega
    refine ⟨hn, some ⟨g, 0, none⟩, cap, by rw [hv, hn], .inr ⟨g, 0, rfl, fun j u hu => ?_⟩⟩
    rw [Nat.zero_add, cell_of_row w g j cur _ (0, 0) hg, ← Array.getElem?_toList]
    rw [← ht, List.getElem?_take] at hu
    split at hu
    · exact hu
    · cases hu
theorem rcInfo : (Try.prog.info? 23).map (fun i => (i.zero, i.size, i.bytes)) = some (some (.agg #[.int .i64 0, .int .i64 0, .int .i64 0, .int .i64 0, .int .i64 0]), 5, 40) := by kernel_rfl
theorem own_base {w : World} {base base' n size : Nat} {e : TypeId} {v : Value} {xs : List Value} (h : w.ownsRow base e size v n xs) (hb : base' ≤ base) : w.ownsRow base' e size v n xs := by
  obtain ⟨hl, h | ⟨g, cap, cur, hv, hbg, hc⟩⟩ := h
  · exact ⟨hl, .inl h⟩
  · exact ⟨hl, .inr ⟨g, cap, cur, hv, by omega, hc⟩⟩
theorem own_of_blocks {w w' : World} {base n size : Nat} {e : TypeId} {v : Value} {xs : List Value} (h : w.ownsRow base e size v n xs) (hb : ∀ j, base ≤ j → j < w.heap.size → w'.heap[j]? = w.heap[j]?) : w'.ownsRow base e size v n xs := by
  obtain ⟨hl, h | ⟨g, cap, cur, hv, hbg, hg, hc⟩⟩ := h
  · exact ⟨hl, .inl h⟩
  · have hlt : g < w.heap.size := by
      rcases Nat.lt_or_ge g w.heap.size with h | h
      · exact h
      · rw [Array.getElem?_eq_none h] at hg; cases hg
    exact ⟨hl, .inr ⟨g, cap, cur, hv, hbg, (hb g hbg hlt).trans hg, hc⟩⟩

end Go.Proofs.Ytapkookehogddaa
