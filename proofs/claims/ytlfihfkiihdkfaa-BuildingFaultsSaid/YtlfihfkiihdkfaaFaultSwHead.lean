/- The switch of BuildingFaults, a theorem a case: each keeps what holds of the building. No statement of the seat is proved here. -/
import Derived.Test.YtlfihfkiihdkfaaFaultState
import Derived.StillTailTactics
import Derived.Deep.RegionHeld3
import Derived.Deep.RegionLaw
import Derived.Deep.RegionWith
namespace Go.Proofs.Ytlfihfkiihdkfaa
open Go.RowKit

def findBlock (n : Nat) : Code → Option Code
  | .block m c => if m = n then some c else findBlock n c
  | .seq a b => match findBlock n a with
    | some c => some c
    | none => findBlock n b
  | .loop c => findBlock n c
  | .scope c => findBlock n c
  | .cond _ a b => match findBlock n a with
    | some c => some c
    | none => findBlock n b
  | _ => none
noncomputable def swc : Nat → Code
  | 0 => ((Try.f4.body.bind (findBlock 2)).getD .skip)
  | j + 1 => match swc j with
    | .seq _ (.cond _ _ r) => r
    | _ => .skip
noncomputable def swA (j : Nat) : Code := match swc j with
  | .seq a _ => a
  | _ => .skip
noncomputable def swB (j : Nat) : Code := match swc j with
  | .seq _ (.cond _ b _) => b
  | _ => .skip

/-- What each case leaves. -/
def FRel (w : World) (gb : Nat) (y0 y1 : Int) (k : Nat) (W : World) : Prop := ∃ b g n cap, FS w gb y0 y1 W b g n cap ∧ n ≤ 8 + 8 * k
theorem FS.append {w0 W W5 : World} {gb : Nat} {y0 y1 : Int} {b : BldD} {g n cap g' m cap' : Nat} (h : FS w0 gb y0 y1 W b g n cap) (hgrow : W.grownBy W5 (some g))
    (hown : W5.ownsRow (w0.heap.size + 1) 34 9 (.slice (some ⟨g', 0, none⟩) (n + m) cap') (n + m) (flatCars b.cars ++ List.replicate (m * 9) (.int .i64 0))) (hat : g' = g ∨ g' = W.heap.size) :
    FS w0 gb y0 y1 (W5.setCell ⟨gb, 7, none⟩ (.slice (some ⟨g', 0, none⟩) (n + m) cap')) { b with cars := b.cars ++ List.replicate m zeroCar } g' (n + m) cap' := by
  have hg := h.gbase
  have hgb := h.gblt
  have hne := h.ne
  have hgx := h.gx
  have hb5 : Below w0.heap.size w0 W5 := h.below.grown hgrow (by have := h.xlt; omega) (fun k hk => by injection hk with hk; omega)
  have hne' : g' ≠ gb := by rcases hat with rfl | rfl <;> omega
  refine ⟨?_, ?_, ?_, by simp [h.len], hne', hgx, hb5.setCell (by show _ ≤ gb; omega) _, by have := h.n1; omega⟩
  · rw [Below.heap_setCell _ _ _ _ (by show w0.heap.size ≠ gb; omega), hgrow.block _ h.xlt (by simp; omega)]; exact h.xbox
  · have hbb := (hgrow.block gb hgb (by simp; omega)).trans h.bbox
    simp only [World.setCell, Array.getElem?_modify, hbb, if_true, Option.map_some]
    rfl
  · have e : flatCars (b.cars ++ List.replicate m zeroCar) = flatCars b.cars ++ List.replicate (m * 9) (.int .i64 0) := by rw [flatCars_app, flatCars_zero]
    show World.ownsRow _ _ _ _ _ _ (flatCars (b.cars ++ List.replicate m zeroCar))
    rw [e]
    exact ownsRow_setCell_other hown (by simp [Value.ownBlock]; exact hne') _
theorem FRel.drew {w W : World} {gb k : Nat} {y0 y1 : Int} (h : FRel w gb y0 y1 k W) : FRel w gb y0 y1 k W.drew := by
  obtain ⟨b, g, n, cap, h, hn⟩ := h
  exact ⟨b, g, n, cap, h.drew, hn⟩
end Go.Proofs.Ytlfihfkiihdkfaa
