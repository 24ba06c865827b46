/- A region whose order is open, with stores into single cells of one elder block, in any order. No statement of the seat is proved here. -/
import Derived.Test.YthniolaeicmjlaaGhostL
namespace Go.Proofs.Ythniolaeicmjlaa
open Go.RowKit GhostV

/-- The row, where the stores D (the operation's number, the cell, the value) that have run have been done. -/
def rowL (D : List (Nat × Nat × Value)) (L : Run) (Z : Array Value) : Array Value := D.foldl (fun a d => if L d.1 = true then a.setIfInBounds d.2.1 d.2.2 else a) Z
structure GS (W1 : World) (b : Nat) (T : TypeId) (Z : Array Value) (D : List (Nat × Nat × Value)) (_γ : Gh) (L : Run) (wx : World) : Prop where
  put : Put W1 b (.cells (rowL D L Z) T (0, 0)) wx
theorem rowL_none (D : List (Nat × Nat × Value)) (Z : Array Value) : rowL D (fun _ => false) Z = Z := by
  unfold rowL
  induction D generalizing Z with
  | nil => rfl
  | cons d D ih => simp only [List.foldl_cons, Bool.false_eq_true, if_false]; exact ih Z
theorem rowL_same {D : List (Nat × Nat × Value)} {L L' : Run} (Z : Array Value) (h : ∀ d ∈ D, L' d.1 = L d.1) : rowL D L' Z = rowL D L Z := by
  unfold rowL
  induction D generalizing Z with
  | nil => rfl
  | cons d D ih =>
    simp only [List.foldl_cons]
    rw [h d (by simp)]
    exact ih _ (fun e he => h e (by simp [he]))
theorem rowL_size (D : List (Nat × Nat × Value)) (L : Run) (Z : Array Value) : (rowL D L Z).size = Z.size := by
  unfold rowL
  induction D generalizing Z with
  | nil => rfl
  | cons d D ih =>
    simp only [List.foldl_cons]
    rw [ih]
    split <;> simp
namespace GS
variable {W1 : World} {b : Nat} {T : TypeId} {Z : Array Value} {D : List (Nat × Nat × Value)}
theorem start (γ : Gh) (h : W1.heap[b]? = some (.cells Z T (0, 0))) : GS W1 b T Z D γ (fun _ => false) { W1 with drawn := W1.drawn + 1 } :=
  ⟨by rw [rowL_none]; exact (Put.start h).drew⟩
theorem next {γ : Gh} {L : Run} {wx w' : World} {i : Nat} (h : GS W1 b T Z D γ L wx) (v : Value) (hi : (D.all fun d => decide (d.1 ≠ i)) = true) (hb : Below wx.heap.size wx w') : GS W1 b T Z D (upd γ i v) (GhostV.mark L i) w' := by
  have H : ∀ d ∈ D, GhostV.mark L i d.1 = L d.1 := fun d hd => GL.mk_ne (of_decide_eq_true (List.all_eq_true.1 hi d hd))
  exact ⟨by rw [rowL_same Z H]; exact h.put.next hb⟩
theorem stored {γ : Gh} {L : Run} {wx : World} {i c : Nat} {x : Value} (h : GS W1 b T Z D γ L wx) (v : Value) (he : rowL D (GhostV.mark L i) Z = (rowL D L Z).setIfInBounds c x) : GS W1 b T Z D (upd γ i v) (GhostV.mark L i) (wx.setCell ⟨b, c, none⟩ x) :=
  ⟨by rw [he]; exact h.put.put1 c x⟩
theorem done {γ : Gh} {L : Run} {wx : World} {R : Array Value} (h : GS W1 b T Z D γ L wx) (he : rowL D L Z = R) : Put W1 b (.cells R T (0, 0)) wx := by
  have := h.put
  rw [he] at this
  exact this
end GS
end Go.Proofs.Ythniolaeicmjlaa
