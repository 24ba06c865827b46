/- Lists of entries in memory. No statement of the seat is proved here. -/
import Derived.Test.YtclkfclbnapamaaCsMath
import Derived.Test.YtclkfclbnapamaaBag
import Derived.Test.YtclkfclbnapamaaLitMore
import Derived.Deep.AppendLies
import Derived.Laws.OwnMore
namespace Go.Proofs.Ytclkfclbnapamaa
open Go.RowKit

def flatE (l : List En) : List Value := l.flatMap En.cells
theorem flatE_nil : flatE [] = [] := rfl
theorem flatE_cons (c : En) (l : List En) : flatE (c :: l) = c.cells ++ flatE l := rfl
theorem flatE_append (l m : List En) : flatE (l ++ m) = flatE l ++ flatE m := by unfold flatE; rw [List.flatMap_append]
theorem flatE_snoc (l : List En) (c : En) : flatE (l ++ [c]) = flatE l ++ c.cells := by rw [flatE_append, flatE_cons, flatE_nil, List.append_nil]
theorem flatE_length (l : List En) : (flatE l).length = l.length * 5 := by
  induction l with
  | nil => rfl
  | cons c l ih => rw [flatE_cons, List.length_append, ih, List.length_cons]; show 5 + _ = _; omega
theorem flatE_get : ∀ (l : List En) (i : Nat) (h : i < l.length) (j : Nat), j < 5 → (flatE l)[i * 5 + j]? = (l[i]).cells[j]?
  | c :: l, 0, _, j, hj => by
    rw [flatE_cons, Nat.zero_mul, Nat.zero_add, List.getElem?_append_left (by show j < 5; exact hj)]; rfl
  | c :: l, i + 1, h, j, hj => by
    rw [flatE_cons, List.getElem?_append_right (by show 5 ≤ _; omega), show (i + 1) * 5 + j - c.cells.length = i * 5 + j from by show (i + 1) * 5 + j - 5 = _; omega]
    exact flatE_get l i (by simpa using h) j hj
theorem flatE_one (l : List En) : ∀ u ∈ flatE l, u.oneCell' = true := by
  intro u hu
  obtain ⟨c, -, h⟩ := List.mem_flatMap.1 hu
  simp only [En.cells, List.mem_cons, List.not_mem_nil, or_false] at h
  rcases h with rfl | rfl | rfl | rfl | rfl <;> rfl

/-- A list of entries at an address, and as a slice. -/
def EAt (w : World) (A : Option Addr) (l : List En) : Prop := l = [] ∨ ∃ b off, A = some ⟨b, off, none⟩ ∧ w.rangeAt b off (flatE l)
def EV (w : World) (v : Value) (l : List En) : Prop := ∃ A cap, v = .slice A l.length cap ∧ EAt w A l
theorem EAt.below {w w' : World} {A : Option Addr} {l : List En} (h : EAt w A l) (hb : Below w.heap.size w w') : EAt w' A l := by
  rcases h with h | ⟨b, off, hA, hr⟩
  · exact .inl h
  · exact .inr ⟨b, off, hA, fun j v hv => (hb.cell (World.block_lt_of_cell? w _ (hr j v hv))).trans (hr j v hv)⟩
theorem EV.below {w w' : World} {v : Value} {l : List En} (h : EV w v l) (hb : Below w.heap.size w w') : EV w' v l := by
  obtain ⟨A, cap, hv, hA⟩ := h
  exact ⟨A, cap, hv, hA.below hb⟩
theorem EAt.at_ {w : World} {A : Option Addr} {l : List En} (h : EAt w A l) {k : Nat} (hk : k < l.length) :
    ∃ b off, A = some ⟨b, off, none⟩ ∧ b < w.heap.size ∧ w.cell? ⟨b, off + k * 5, none⟩ = some (.int .i64 (l[k]).f) ∧ w.cell? ⟨b, off + k * 5 + 1, none⟩ = some (.int .i64 (l[k]).d) ∧ w.cell? ⟨b, off + k * 5 + 2, none⟩ = some (.int .i64 (l[k]).car) ∧
      w.cell? ⟨b, off + k * 5 + 3, none⟩ = some (.int .i64 (l[k]).mv) ∧ w.cell? ⟨b, off + k * 5 + 4, none⟩ = some (.bool (l[k]).md) := by
  rcases h with h | ⟨b, off, hA, hr⟩
  · rw [h] at hk; simp at hk
  · have hc := fun j v (hj : j < 5) (e : (l[k]).cells[j]? = some v) => hr (k * 5 + j) v ((flatE_get l k hk j hj).trans e)
    have h0 := hc 0 _ (by omega) rfl
    refine ⟨b, off, hA, World.block_lt_of_cell? w _ h0, h0, hc 1 _ (by omega) rfl, hc 2 _ (by omega) rfl, hc 3 _ (by omega) rfl, hc 4 _ (by omega) rfl⟩
theorem EV.of_own {w : World} {base n : Nat} {v : Value} {l : List En} (h : w.ownsRow base 38 5 v n (flatE l)) : n = l.length ∧ EV w v l := by
  obtain ⟨hl, h | ⟨g, cap, cur, hv, _, hg, _, _, _, ht⟩⟩ := h
  · rw [flatE_length] at hl
    obtain ⟨rfl, rfl⟩ := h
    have : l = [] := List.eq_nil_of_length_eq_zero (by omega)
    subst this
    exact ⟨rfl, none, 0, rfl, .inl rfl⟩
  · rw [flatE_length] at hl
    have hn : n = l.length := by omega
    refine ⟨hn, some ⟨g, 0, none⟩, cap, by rw [hv, hn], .inr ⟨g, 0, rfl, fun j u hu => ?_⟩⟩
    rw [Nat.zero_add, cell_of_row w g j cur _ (0, 0) hg, ← Array.getElem?_toList]
    rw [← ht, List.getElem?_take] at hu
    split at hu
    · exact hu
    · cases hu
theorem enInfo : (Try.prog.info? 38).map (fun i => (i.zero, i.size, i.bytes)) = some (some (.agg #[.int .i64 0, .int .i64 0, .int .i64 0, .int .i64 0, .bool false]), 5, 40) := by kernel_rfl
theorem own_base {w : World} {base base' n size : Nat} {e : TypeId} {v : Value} {xs : List Value} (h : w.ownsRow base e size v n xs) (hb : base' ≤ base) : w.ownsRow base' e size v n xs := by
  obtain ⟨hl, h | ⟨g, cap, cur, hv, hbg, hc⟩⟩ := h
  · exact ⟨hl, .inl h⟩
  · exact ⟨hl, .inr ⟨g, cap, cur, hv, by omega, hc⟩⟩
theorem own_of_blocks {w w' : World} {base n size : Nat} {e : TypeId} {v : Value} {xs : List Value} (h : w.ownsRow base e size v n xs) (hb : ∀ j, base ≤ j → j < w.heap.size → w'.heap[j]? = w.heap[j]?) : w'.ownsRow base e size v n xs := by
  obtain ⟨hl, h | ⟨g, cap, cur, hv, hbg, hg, hc⟩⟩ := h
  · exact ⟨hl, .inl h⟩
  · have hlt : g < w.heap.size := by
      rcases Nat.lt_or_ge g w.heap.size with h | h
      · exact h
      · rw [Array.getElem?_eq_none h] at hg; cases hg
    exact ⟨hl, .inr ⟨g, cap, cur, hv, hbg, (hb g hbg hlt).trans hg, hc⟩⟩

namespace Cs
/-- The calls of a set at the floors below k, and at floor k those below direction d. -/
def part (c : Cs) (k d : Nat) : List (Nat × Nat) := prs c k ++ ((if 1 < d ∧ c.up.testBit k = true then [(k, 1)] else []) ++ (if 2 < d ∧ c.dn.testBit k = true then [(k, 2)] else []))
theorem part_one (c : Cs) (k : Nat) : part c k 1 = prs c k := by unfold part; rw [if_neg (by omega), if_neg (by omega)]; simp
theorem part_three (c : Cs) (k : Nat) : part c k 3 = prs c (k + 1) := by
  unfold part
  show _ = prs c k ++ _
  congr 2
  · cases c.up.testBit k <;> simp
  · cases c.dn.testBit k <;> simp
theorem part_yes {c : Cs} (h : c.ok) {k d : Nat} (hk : k < 32) (h1 : 1 ≤ d) (h2 : d ≤ 2) (hh : has c k d = true) : part c k (d + 1) = part c k d ++ [(k, d)] := by
  rcases (show d = 1 ∨ d = 2 by omega) with rfl | rfl
  · have := (has_up h hk).symm.trans hh
    unfold part
    rw [this]; simp
  · have := (has_dn h hk).symm.trans hh
    unfold part
    rw [this]; simp
theorem part_no {c : Cs} (h : c.ok) {k d : Nat} (hk : k < 32) (h1 : 1 ≤ d) (h2 : d ≤ 2) (hh : has c k d = false) : part c k (d + 1) = part c k d := by
  rcases (show d = 1 ∨ d = 2 by omega) with rfl | rfl
  · have := (has_up h hk).symm.trans hh
    unfold part
    rw [this]; simp
  · have := (has_dn h hk).symm.trans hh
    unfold part
    rw [this]; simp
theorem part_le (c : Cs) {k d : Nat} (hk : k < 32) : (part c k d).length ≤ 66 := by
  unfold part
  have h := prs_len c k
  have h1 := cnt_le c.up.testBit k
  have h2 := cnt_le c.dn.testBit k
  rw [List.length_append, List.length_append, h]
  have h3 : (if 1 < d ∧ c.up.testBit k = true then [(k, 1)] else []).length ≤ 1 := by split <;> simp
  have h4 : (if 2 < d ∧ c.dn.testBit k = true then [(k, 2)] else []).length ≤ 1 := by split <;> simp
  omega
def partE (c : Cs) (k d : Nat) : List En := (part c k d).map en
theorem partE_yes {c : Cs} (h : c.ok) {k d : Nat} (hk : k < 32) (h1 : 1 ≤ d) (h2 : d ≤ 2) (hh : has c k d = true) : partE c k (d + 1) = partE c k d ++ [⟨k, d, -1, 0, false⟩] := by
  unfold partE; rw [part_yes h hk h1 h2 hh, List.map_append]; rfl
theorem partE_no {c : Cs} (h : c.ok) {k d : Nat} (hk : k < 32) (h1 : 1 ≤ d) (h2 : d ≤ 2) (hh : has c k d = false) : partE c k (d + 1) = partE c k d := by
  unfold partE; rw [part_no h hk h1 h2 hh]
theorem partE_next (c : Cs) (k : Nat) : partE c (k + 1) 1 = partE c k 3 := by unfold partE; rw [part_one, part_three]
theorem partE_end (c : Cs) : partE c 32 1 = ents c := by unfold partE ents; rw [part_one]
theorem partE_zero (c : Cs) : partE c 0 1 = [] := by unfold partE; rw [part_one]; rfl
theorem partE_le (c : Cs) {k d : Nat} (hk : k < 32) : (partE c k d).length ≤ 66 := by unfold partE; rw [List.length_map]; exact part_le c hk
end Cs
end Go.Proofs.Ytclkfclbnapamaa
