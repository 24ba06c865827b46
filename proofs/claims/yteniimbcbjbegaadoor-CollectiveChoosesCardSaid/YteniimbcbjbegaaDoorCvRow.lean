/- Lists of stops in memory. No statement of the seat is proved here. -/
import Derived.Test.YteniimbcbjbegaaDoorCvMath
import Derived.Test.YteniimbcbjbegaaDoorBag
import Derived.Test.YteniimbcbjbegaaDoorLitMore
import Derived.Deep.AppendLies
namespace Go.Proofs.YteniimbcbjbegaaDoor
open Go.RowKit

def Stp.cells (c : Stp) : List Value := [.int .u32 c.car, .int .u32 c.h.up, .int .u32 c.h.dn]
def flatS (l : List Stp) : List Value := l.flatMap Stp.cells
theorem flatS_nil : flatS [] = [] := rfl
theorem flatS_cons (c : Stp) (l : List Stp) : flatS (c :: l) = c.cells ++ flatS l := rfl
theorem flatS_append (l m : List Stp) : flatS (l ++ m) = flatS l ++ flatS m := by unfold flatS; rw [List.flatMap_append]
theorem flatS_snoc (l : List Stp) (c : Stp) : flatS (l ++ [c]) = flatS l ++ c.cells := by rw [flatS_append, flatS_cons, flatS_nil, List.append_nil]
theorem flatS_length (l : List Stp) : (flatS l).length = l.length * 3 := by
  induction l with
  | nil => rfl
  | cons c l ih => rw [flatS_cons, List.length_append, ih, List.length_cons]; show 3 + _ = _; omega
theorem flatS_get : ∀ (l : List Stp) (i : Nat) (h : i < l.length) (j : Nat), j < 3 → (flatS l)[i * 3 + j]? = (l[i]).cells[j]?
  | c :: l, 0, _, j, hj => by
    rw [flatS_cons, Nat.zero_mul, Nat.zero_add, List.getElem?_append_left (by show j < 3; exact hj)]; rfl
  | c :: l, i + 1, h, j, hj => by
    rw [flatS_cons, List.getElem?_append_right (by show 3 ≤ _; omega), show (i + 1) * 3 + j - c.cells.length = i * 3 + j from by show (i + 1) * 3 + j - 3 = _; omega]
    exact flatS_get l i (by simpa using h) j hj
/-- A list of stops at an address, and as a slice. -/
def SAt (w : World) (A : Option Addr) (l : List Stp) : Prop := l = [] ∨ ∃ b off, A = some ⟨b, off, none⟩ ∧ w.rangeAt b off (flatS l)
def SV (w : World) (v : Value) (l : List Stp) : Prop := ∃ A cap, v = .slice A l.length cap ∧ SAt w A l
theorem SAt.below {w w' : World} {A : Option Addr} {l : List Stp} (h : SAt w A l) (hb : Below w.heap.size w w') : SAt w' A l := by
  rcases h with h | ⟨b, off, hA, hr⟩
  · exact .inl h
  · exact .inr ⟨b, off, hA, fun j v hv => (hb.cell (World.block_lt_of_cell? w _ (hr j v hv))).trans (hr j v hv)⟩
theorem SV.below {w w' : World} {v : Value} {l : List Stp} (h : SV w v l) (hb : Below w.heap.size w w') : SV w' v l := by
  obtain ⟨A, cap, hv, hA⟩ := h
  exact ⟨A, cap, hv, hA.below hb⟩
theorem SAt.at_ {w : World} {A : Option Addr} {l : List Stp} (h : SAt w A l) {k : Nat} (hk : k < l.length) :
    ∃ b off, A = some ⟨b, off, none⟩ ∧ b < w.heap.size ∧ w.cell? ⟨b, off + k * 3, none⟩ = some (.int .u32 (l[k]).car) ∧ w.cell? ⟨b, off + k * 3 + 1, none⟩ = some (.int .u32 (l[k]).h.up) ∧ w.cell? ⟨b, off + k * 3 + 2, none⟩ = some (.int .u32 (l[k]).h.dn) := by
  rcases h with h | ⟨b, off, hA, hr⟩
  · rw [h] at hk; simp at hk
  · have hc := fun j v (hj : j < 3) (e : (l[k]).cells[j]? = some v) => hr (k * 3 + j) v ((flatS_get l k hk j hj).trans e)
    have h0 := hc 0 _ (by omega) rfl
    exact ⟨b, off, hA, World.block_lt_of_cell? w _ h0, h0, hc 1 _ (by omega) rfl, hc 2 _ (by omega) rfl⟩
end Go.Proofs.YteniimbcbjbegaaDoor
