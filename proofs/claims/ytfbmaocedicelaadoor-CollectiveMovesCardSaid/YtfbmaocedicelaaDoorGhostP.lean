/- A region whose order is open, with calls whose answers are told by what they are in memory: what has been answered, under the operations' numbers. No statement of the seat is proved here. -/
import Derived.Test.YtfbmaocedicelaaDoorGhostV
import Derived.Test.YtfbmaocedicelaaDoorBag
namespace Go.Proofs.YtfbmaocedicelaaDoor
open Go.RowKit GhostV

/-- What a value is in a world, and goes on being where what lay lies. -/
abbrev Pd := { p : World → Value → Prop // ∀ (w w' : World) (v : Value), p w v → Below w.heap.size w w' → p w' v }
/-- The answers D, each made by the operation of its number. -/
structure GP (W : World) (D : List (Nat × Pd)) (γ : Gh) (L : Run) (wx : World) : Prop where
  below : Below W.heap.size W wx
  row : ∀ d ∈ D, L d.1 = true → d.2.1 wx (γ d.1)
theorem GP.start (W : World) (D : List (Nat × Pd)) (γ : Gh) : GP W D γ (fun _ => false) { W with drawn := W.drawn + 1 } :=
  ⟨(Below.refl _ _).drew, fun _ _ h => absurd h Bool.false_ne_true⟩
theorem GP.no {W wx : World} {D : List (Nat × Pd)} {γ : Gh} {L : Run} {i : Nat} (h : GP W D γ L wx) (hi : (D.all fun d => decide (d.1 ≠ i)) = true) : GP W D γ (GhostV.mark L i) wx := by
  have H : ∀ d ∈ D, d.1 ≠ i := fun d hd => of_decide_eq_true (List.all_eq_true.1 hi d hd)
  refine ⟨h.below, fun d hd hl => h.row d hd ?_⟩
  unfold GhostV.mark at hl
  rwa [if_neg (H d hd)] at hl
theorem GP.next {W wx w' : World} {D : List (Nat × Pd)} {γ : Gh} {L : Run} {i : Nat} (h : GP W D γ L wx) (v : Value) (hi : (D.all fun d => decide (d.1 ≠ i)) = true) (hb : Below wx.heap.size wx w') : GP W D (upd γ i v) (GhostV.mark L i) w' := by
  have H : ∀ d ∈ D, d.1 ≠ i := fun d hd => of_decide_eq_true (List.all_eq_true.1 hi d hd)
  refine ⟨h.below.trans (hb.mono h.below.size), fun d hd hl => ?_⟩
  unfold GhostV.mark at hl
  rw [if_neg (H d hd)] at hl
  unfold upd
  rw [if_neg (H d hd)]
  exact d.2.2 _ _ _ (h.row d hd hl) hb
theorem GP.make {W wx w' : World} {D : List (Nat × Pd)} {γ : Gh} {L : Run} {i : Nat} (h : GP W D γ L wx) {v : Value} (hv : ∀ d ∈ D, d.1 = i → d.2.1 w' v) (hb : Below wx.heap.size wx w') : GP W D (upd γ i v) (GhostV.mark L i) w' := by
  refine ⟨h.below.trans (hb.mono h.below.size), fun d hd hl => ?_⟩
  unfold GhostV.mark at hl
  unfold upd
  by_cases hi : d.1 = i
  · rw [if_pos hi]
    exact hv d hd hi
  · rw [if_neg hi] at hl ⊢
    exact d.2.2 _ _ _ (h.row d hd hl) hb
end Go.Proofs.YtfbmaocedicelaaDoor
