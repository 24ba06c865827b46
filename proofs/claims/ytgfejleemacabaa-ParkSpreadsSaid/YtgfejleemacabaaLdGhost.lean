/- A region whose order is open, with calls that make rows: the rows that have been made, under their operations' numbers. No statement of the seat is proved here. -/
import Derived.Test.YtgfejleemacabaaGhostV
import Derived.Test.YtgfejleemacabaaLdRow
namespace Go.Proofs.Ytgfejleemacabaa
open Go.RowKit GhostV

/-- The rows D, each made by the operation of its number. -/
structure GV (W : World) (D : List (Nat × List Value)) (γ : Gh) (L : Run) (wx : World) : Prop where
  below : Below W.heap.size W wx
  row : ∀ d ∈ D, L d.1 = true → VV wx (γ d.1) d.2
theorem GV.start (W : World) (D : List (Nat × List Value)) (γ : Gh) : GV W D γ (fun _ => false) { W with drawn := W.drawn + 1 } :=
  ⟨(Below.refl _ _).drew, fun _ _ h => absurd h Bool.false_ne_true⟩
theorem GV.no {W wx : World} {D : List (Nat × List Value)} {γ : Gh} {L : Run} {i : Nat} (h : GV W D γ L wx) (hi : (D.all fun d => decide (d.1 ≠ i)) = true) : GV W D γ (GhostV.mark L i) wx := by
  have H : ∀ d ∈ D, d.1 ≠ i := fun d hd => of_decide_eq_true (List.all_eq_true.1 hi d hd)
  refine ⟨h.below, fun d hd hl => h.row d hd ?_⟩
  unfold GhostV.mark at hl
  rwa [if_neg (H d hd)] at hl
theorem GV.next {W wx w' : World} {D : List (Nat × List Value)} {γ : Gh} {L : Run} {i : Nat} (h : GV W D γ L wx) (v : Value) (hi : (D.all fun d => decide (d.1 ≠ i)) = true) (hb : Below wx.heap.size wx w') : GV W D (upd γ i v) (GhostV.mark L i) w' := by
  have H : ∀ d ∈ D, d.1 ≠ i := fun d hd => of_decide_eq_true (List.all_eq_true.1 hi d hd)
  refine ⟨h.below.trans (hb.mono h.below.size), fun d hd hl => ?_⟩
  unfold GhostV.mark at hl
  rw [if_neg (H d hd)] at hl
  unfold upd
  rw [if_neg (H d hd)]
  exact (h.row d hd hl).below hb
theorem GV.make {W wx w' : World} {D : List (Nat × List Value)} {γ : Gh} {L : Run} {i : Nat} (h : GV W D γ L wx) {v : Value} (hv : ∀ d ∈ D, d.1 = i → VV w' v d.2) (hb : Below wx.heap.size wx w') : GV W D (upd γ i v) (GhostV.mark L i) w' := by
  refine ⟨h.below.trans (hb.mono h.below.size), fun d hd hl => ?_⟩
  unfold GhostV.mark at hl
  unfold upd
  by_cases hi : d.1 = i
  · rw [if_pos hi]
    exact hv d hd hi
  · rw [if_neg hi] at hl ⊢
    exact (h.row d hd hl).below hb
theorem vv_row {w : World} {g n : Nat} {vs : List Value} {t : TypeId} (h : w.heap[g]? = some (.cells vs.toArray t (0, 0))) (hn : vs.length = n) : VV w (.slice (some ⟨g, 0, none⟩) n n) vs := by
  subst hn
  have hlt : g < w.heap.size := by
    rcases Nat.lt_or_ge g w.heap.size with h1 | h1
    · exact h1
    · rw [Array.getElem?_eq_none h1] at h; cases h
  exact ⟨_, _, rfl, .inr ⟨g, 0, rfl, hlt, fun j hj => by rw [Nat.zero_add, cell_of_row _ _ _ _ _ (0, 0) h]; simp⟩⟩
end Go.Proofs.Ytgfejleemacabaa
